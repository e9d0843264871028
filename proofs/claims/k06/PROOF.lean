import PyProof.Rows.All
import Wide.All
import OpenK.AllK
import Wide.FinOn
import HandS.ForMost
import HandS.WideBits
import HandS.Defaults
import HandS.ExcInit
import HandS.IsInst
import HandS.Style
import HandS.Strs
import HandS.Zip
import HandS.NestedK
import HandS.EndTab
import HandS.CallLocal
import HandS.Walk
import PyProof.ListStr
import HandS.Conv
import HandS.Set
import HandS.TupSets
import HandS.SetFor
import HandS.SetTxt0
import PyProof.Rows.SortShellAny
import HandS.Deep
import PyProof.P3In
import HandS.More
import HandS.TryOnly
import HandS.TupLe
import HandS.Star
import HandS.TupAny
import HandS.Comp
import HandS.Iter
import HandS.ListItems
import HandS.List
import HandS.HeadHook3
import PySem.Challenge.RW_phrasejoins_k06_whole_derivations_change
set_option Elab.async false
set_option linter.all false
set_option maxRecDepth 100000
set_option maxHeartbeats 8000000
/-! Rules of our own: a list extended by a tuple; the end of a list cut off. Types as data. -/
namespace KT
open PySem PySem.Spec PyProof.Rows L2
open PySem.Sem (wp)
open MeetsSeq
/-! ### xs.extend(t), t a tuple -/
theorem list_extend_tup (l : Addr) (items : Array Value) (n : Nat) (b : Addr) (dd : Option Addr) (sl : Array (Option Value)) (items2 : Array Value) (n2 : Nat) (hs0 : ¬(!items.isEmpty && Builtin.List.listTooLong (items.size + items2.size)) = true) (hs1 : items.size ≤ sizeLine) (hs2 : items.size + items2.size ≤ sizeLine + 1) :
    Meets (Builtin.«list.extend» ⟨[.ref l, .ref b], []⟩) (fun _ R s => s.heap.get? l = some { cls := .type "list", dict := none, data := .seq items n, slots := #[] } ∧ s.heap.get? b = some { cls := .type "tuple", dict := dd, data := .seq items2 n2, slots := sl } ∧ R (.ok (.ret Value.none)) { s with heap := s.heap.update l (Obj.mapSeq fun x => x ++ items2), toks := s.toks }) :=
  .of_wp fun prog w A R s h => by
    obtain ⟨hp, g, d, tk, os⟩ := s; obtain ⟨hl, hb, h⟩ := h
    have f1 := AutoSeq1.idx_int; have f2 := AutoSeq1.sub_tuple_tuple; have f3 := AutoSeq1.sub_list_list; have f4 := AutoSeq1.sub_tuple_list; have f5 := AutoSeq1.sub_list_tuple
    have hz' : (items ++ items2).size ≤ sizeLine + 1 := by rw [Array.size_append]; exact hs2
    wp_walk using (wpAny_updateSeq hl rfl (hz := hs1) (_hz' := hz')), wpAny_loadPart' hl, wpAny_loadPart' hb; exact ⟨_, rfl, h⟩
section
variable {X : Cx}
def rExtT (K : PySem.W.Frag) : V → List V → Hp → VK → Prop := fun x vs H Q => ∃ l b xs zs, x = .ref l ∧ vs = [.ref b] ∧ H l = some (.lst xs) ∧ SqT K H b zs ∧ xs.length + zs.length ≤ sizeLine ∧ Q .non (upd H l (.lst (xs ++ zs)))
theorem mt_extT : MtM X "list.extend" (rExtT X.K) := by
  intro pins s σ H x vs v us Q I rx rv h
  obtain ⟨l, b, xs, zs, rfl, rfl, hH, hB, hz, q⟩ := h
  cases rx
  obtain ⟨u, rfl, ru⟩ := rv.one
  cases ru
  obtain ⟨z, its, n, r, hl, e⟩ := I.lstM hH
  obtain ⟨its2, r2, ⟨o, ho, hc, n2, hd⟩, hz2⟩ := I.tuple hB
  obtain ⟨oc, od, dt, sl⟩ := o
  simp only at hc hd
  subst hc hd
  have hl2 := r2.length
  have hsz : its.toArray.size + its2.toArray.size ≤ sizeLine := by rw [List.size_toArray, List.size_toArray]; omega
  have hlong : ¬ (!its.toArray.isEmpty && Builtin.List.listTooLong (its.toArray.size + its2.toArray.size)) = true := by
    rw [notLongL hsz, Bool.and_false]
    exact Bool.false_ne_true
  refine call_meets F.slot_list_extend ⟨_, e, rfl⟩ F.entry_list_extend (F.args_list_extend_2 _ _)
    (list_extend_tup l its.toArray n b od sl its2.toArray n2 hlong (by rw [List.size_toArray]; omega) (by omega)) ⟨e, ho, ?_⟩
  refine ⟨.non, _, I.lset (its' := its ++ its2) hH e (by simp) (r.append r2) ?_, rfl, q⟩
  rw [List.length_append]
  omega
end
/-! ### del xs[a:] -/
theorem drop_tail (its : List Value) (a : Nat) (h : a ≤ its.length) :
    (its.toArray.toList.zipIdx.filterMap fun (p : Value × Nat) => if (decide ((a : Int) ≤ (p.2 : Int)) && decide ((p.2 : Int) < (its.toArray.size : Int)) && ((p.2 : Int) - a) % 1 == 0) = true then none else some p.1).toArray = (its.take a).toArray := by
  congr 1
  rw [List.toList_toArray, List.size_toArray]
  have key : ∀ (l : List Value) (k : Nat), k + l.length ≤ its.length → (l.zipIdx k).filterMap (fun (p : Value × Nat) => if (decide ((a : Int) ≤ (p.2 : Int)) && decide ((p.2 : Int) < (its.length : Int)) && ((p.2 : Int) - a) % 1 == 0) = true then none else some p.1) = l.take (a - k) := by
    intro l
    induction l with
    | nil => intro k _; simp
    | cons x r ih =>
      intro k hk
      rw [List.length_cons] at hk
      rw [List.zipIdx_cons, List.filterMap_cons, ih (k + 1) (by omega)]
      have h1 : ((k : Int) - a) % 1 = 0 := by omega
      have h2 : ((k : Int) < (its.length : Int)) := by omega
      by_cases c : a ≤ k
      · have c' : ((a : Int) ≤ (k : Int)) := by omega
        have e0 : a - k = 0 := by omega
        have e1 : a - (k + 1) = 0 := by omega
        simp [h1, h2, c', e0, e1]
      · have c' : ¬ ((a : Int) ≤ (k : Int)) := by omega
        have e0 : a - k = (a - (k + 1)) + 1 := by omega
        simp [c', e0]
  have q := key its 0 (by omega)
  simpa using q
section
variable {prog : Program} {w : World} {A : Around} {E : Value → Shared → Prop} {s : Shared}
theorem bounds_end {a n : Nat} (h : a ≤ n) : sliceBounds (some (a : Int)) none none n = ((a : Int), (n : Int), 1) := by
  simp only [sliceBounds, Option.getD_none]
  have h1 : ¬ ((a : Int) < 0) := by omega
  simp only [h1, if_false, show (1 : Int) > 0 by decide, if_true]
  congr 1
  omega
theorem delItem_slice {l sl : Addr} {its : List Value} {n : Nat} {vl : Value} {a : Nat} {Q : Unit → Shared → Prop}
    (e : s.heap.get? l = some { cls := .type "list", data := .seq its.toArray n }) (hs : s.heap.IsSliceOf sl vl .none .none) (pl : IsPart vl (some (a : Int))) (ha : a ≤ its.length) (hsz : its.toArray.size ≤ sizeLine)
    (h : ∀ g : Array Value → Array Value, g its.toArray = (its.take a).toArray → Q () { s with heap := s.heap.update l (Obj.mapSeq g) }) :
    wpAny (model prog w) A (delItem (.ref l) (.ref sl)) Q E s := by
  have hl : s.heap.IsList l its.toArray := PySem.IsL.isList e
  obtain ⟨os, hos, hcs, hds⟩ := id hs
  have hTs : s.TypeIs (.ref sl) "slice" := ⟨os, hos, hcs⟩
  have hstep : ¬ ((rawPart none == rawInt 0) = true) := Bool.false_ne_true
  refine wpAny_delItem_slot hl.typeIs (by decide) F.slot_list_delitem (wpAny_call_entry F.slot_list_delitem hl.typeIs F.entry_list_delitem ?_ (F.args_list_delitem_2 _ _))
  show wpAny _ _ (Builtin.List.listSubscript? (.ref sl) >>= _) _ _ s
  refine wpAny_bind ?_
  unfold Builtin.List.listSubscript?
  refine wpAny_bind (wpAny_specialOf hTs slice_no_index ?_)
  simp only [Option.isNone_none, if_true]
  refine wpAny_pure ?_
  show wpAny _ _ (typeOf (.ref sl) >>= _) _ _ s
  refine wpAny_bind (wpAny_typeOf hTs ?_)
  first
    | rw [if_neg (by decide)]
    | refine PySem.W.KFB.if_not (by decide) ?_
  rw [listSliceParts_eq]
  refine wpAny_bind (wpAny_bind (wpAny_field hos hds (x := .none) rfl (wpAny_bind (wpAny_listPart .none ?_))))
  rw [if_neg hstep]
  refine wpAny_bind (wpAny_field hos hds (x := vl) rfl (wpAny_bind (wpAny_listPart pl ?_)))
  refine wpAny_bind (wpAny_field hos hds (x := .none) rfl (wpAny_bind (wpAny_listPart .none (wpAny_pure ?_))))
  refine wpAny_bind (m := Builtin.List.listItems (.ref l)) ?_
  unfold Builtin.List.listItems
  refine wpAny_bind (wpAny_seqItems e rfl (wpAny_pure ?_))
  refine wpAny_bind (wpAny_of_eq ((sliceIndices_raw (some (a : Int)) none none its.toArray.size (by simp)).trans (congrArg (pure : Int × Int × Int → Sem (Int × Int × Int)) (bounds_end (by rw [List.size_toArray]; exact ha)))) ?_)
  refine wpAny_bind (wpAny_rule ?_)
  refine wpAny_bind (wpAny_updateSeq (hz := hsz) (_hz' := ?hz) e rfl ?main)
  case hz =>
    refine Nat.le_trans (Nat.le_of_eq (congrArg Array.size (drop_tail its a ha))) ?_
    rw [List.size_toArray, List.length_take]
    rw [List.size_toArray] at hsz
    omega
  case main =>
    refine wpAny_bind (wpAny_letGo ?_)
    refine wpAny_pure ⟨.none, rfl, h _ ?_⟩
    exact drop_tail its a ha
end
section
variable {X : Cx}
/-- del xs[a:] of a list -/
def tDelTail (to : TE) (tl : TO) : TS := fun D σ H => to σ H fun x H1 => tl σ H1 fun y H2 => ∃ (l : Addr) (xs : List V) (a : Nat), x = .ref l ∧ y = some (a : Int) ∧ H2 l = some (.lst xs) ∧ a ≤ xs.length ∧ D.nx σ (upd H2 l (.lst (xs.take a)))
theorem ps_delTail {o : Expr} {lo : Option Expr} {to : TE} {tl : TO} {tpos p2 pos : Pos} (ho : PE X o to) (hl : PO X lo tl) : PS X (.Delete [.Subscript o (.Slice lo none none p2) tpos] pos) (tDelTail to tl) := by
  refine ⟨fun pins s σ H D I h => ?_⟩
  refine wpAny_Delete (wpAny_deleteEach_cons (wpAny_delete_Subscript (thn (ho.run pins s σ H _ I h) fun u s1 ⟨x, H1, I1, rx, q1⟩ => wpAny_Slice (thn (hl.run pins s1 σ H1 _ I1 q1) fun vl s2 ⟨l, H2, I2, pl, q2⟩ => ?_))))
  rw [evalPart_none]
  refine wpAny_pure ?_
  refine wpAny_pure ?_
  obtain ⟨ll, xs, a, ex, ey, hH, ha, q2⟩ := q2
  subst ex
  subst ey
  cases (show u = Value.ref ll from rx)
  have I4 : Inv X pins σ H2 { s2 with heap := s2.heap.push { cls := .type "slice", data := .fields #[vl, .none, .none] } } := I2.kept (t' := s2.toks) fun b ob q => Heap.get?_push_of_some _ q
  obtain ⟨z, its, n, r, hl', e⟩ := I4.lstM hH
  refine delItem_slice (a := a) e (Heap.IsSliceOf.new ..) pl (by omega) (by rw [List.size_toArray]; omega) fun g hg => wpAny_deleteEach_nil ⟨σ, _, I4.lset (its' := its.take a) (t' := s2.toks) hH e hg (r.take a) ?_, q2⟩
  rw [List.length_take]
  omega
end
end KT

namespace U6
open PySem PySem.Spec PyProof.Rows L2
open PySem.W (Frag)
/-! ### the text by places -/
def top (i : Nat) : Stmt := PySem.Challenge.pw_phrasejoins_k06_whole_derivations_change.main.body.getD i (.Pass ⟨0, 0, 0, 0⟩)
abbrev sNodesIn : Stmt := top 8
abbrev sFromInside : Stmt := top 9
abbrev sIsWord : Stmt := top 12
abbrev sIsCount : Stmt := top 13
abbrev sIsSigned : Stmt := top 16
abbrev sIsKind : Stmt := top 17
abbrev sCheckKind : Stmt := top 18
abbrev sPartsOf : Stmt := top 19
abbrev sKindsIn : Stmt := top 20
abbrev sFolded : Stmt := top 21
abbrev sPlainsIn : Stmt := top 22
abbrev sTurnedSign : Stmt := top 23
abbrev sTurned : Stmt := top 24
abbrev sCheckMap : Stmt := top 25
abbrev sPutIn : Stmt := top 26
abbrev sPartsBegin : Stmt := top 30
abbrev sPartsOfKnot : Stmt := top 31
abbrev sWithParts : Stmt := top 32
abbrev sHasForm : Stmt := top 33
abbrev sAreAllKnots : Stmt := top 34
abbrev sKnotsIn : Stmt := top 35
abbrev sFoldedKnots : Stmt := top 36
abbrev sTellIs : Stmt := top 37
abbrev sTellOverMade : Stmt := top 38
abbrev sTellUnderMade : Stmt := top 39
abbrev sTellThenMade : Stmt := top 40
abbrev sTellOverUsed : Stmt := top 41
abbrev sTellUnderUsed : Stmt := top 42
abbrev sTellThenUsed : Stmt := top 43
abbrev sTellCut : Stmt := top 44
abbrev sTell : Stmt := top 46
abbrev sTellingOf : Stmt := top 47
abbrev sIsDerivation : Stmt := top 50
abbrev sCheckDerivation : Stmt := top 51
abbrev sToldBy : Stmt := top 52
abbrev sCutsOf : Stmt := top 53
abbrev sTurnedPlaced : Stmt := top 54
abbrev sTurnedKnot : Stmt := top 55
abbrev sTurnedDerivation : Stmt := top 56
abbrev sWithPut : Stmt := top 57
abbrev sPlainStep : Stmt := top 58
abbrev sPlainKnot : Stmt := top 59
abbrev sPlainOut : Stmt := top 60
abbrev sCutIn : Stmt := top 61
abbrev sLPurse : Stmt := top 63
abbrev sLMixed : Stmt := top 64
abbrev sLDraw : Stmt := top 65
abbrev sLPurses : Stmt := top 66
abbrev sLOneOf : Stmt := top 67
abbrev sLShuffled : Stmt := top 68
abbrev sLSame : Stmt := top 69
abbrev sLExact : Stmt := top 70
abbrev sLWord : Stmt := top 71
abbrev sLWords : Stmt := top 72
abbrev sLPlains : Stmt := top 73
abbrev sLKind : Stmt := top 74
abbrev sLSigns : Stmt := top 75
abbrev sLPlainList : Stmt := top 76
abbrev sLPlainWords : Stmt := top 77
abbrev sLTurned : Stmt := top 78
abbrev sLIsPlace : Stmt := top 79
abbrev sLIsKind : Stmt := top 80
abbrev sLToldUsed : Stmt := top 81
abbrev sLToldMade : Stmt := top 82
abbrev sLTells : Stmt := top 83
abbrev sLInner : Stmt := top 84
abbrev sLManyCuts : Stmt := top 85
abbrev sLOpened : Stmt := top 86
abbrev sLMinor : Stmt := top 87
abbrev sLOneRule : Stmt := top 88
abbrev sLDerivation : Stmt := top 89
abbrev sLEnds : Stmt := top 90
abbrev sLPut : Stmt := top 91
abbrev sLPutAll : Stmt := top 92
abbrev sLAbout : Stmt := top 93
abbrev sLChangesRight : Stmt := top 94
abbrev sLCutsRight : Stmt := top 95
abbrev sLaw : Stmt := top 96
abbrev nNodesIn : List Str := ["root", "parts_of", "waiting", "nodes", "node"]
abbrev pNodesIn : List Str := ["root", "parts_of"]
theorem scNodesIn : FnScope nNodesIn pNodesIn (defScope sNodesIn) := ⟨rfl, rfl, rfl, by decide +kernel, rfl, by decide +kernel, by decide +kernel⟩
abbrev nFromInside : List Str := ["root", "parts_of", "at_node", "came", "node", "begin", "parts"]
abbrev pFromInside : List Str := ["root", "parts_of", "at_node"]
theorem scFromInside : FnScope nFromInside pFromInside (defScope sFromInside) := ⟨rfl, rfl, rfl, by decide +kernel, rfl, by decide +kernel, by decide +kernel⟩
abbrev nIsWord : List Str := ["value", "letter"]
abbrev pIsWord : List Str := ["value"]
theorem scIsWord : FnScope nIsWord pIsWord (defScope sIsWord) := ⟨rfl, rfl, rfl, by decide +kernel, rfl, by decide +kernel, by decide +kernel⟩
abbrev nIsCount : List Str := ["value"]
abbrev pIsCount : List Str := ["value"]
theorem scIsCount : FnScope nIsCount pIsCount (defScope sIsCount) := ⟨rfl, rfl, rfl, by decide +kernel, rfl, by decide +kernel, by decide +kernel⟩
abbrev nIsSigned : List Str := ["value"]
abbrev pIsSigned : List Str := ["value"]
theorem scIsSigned : FnScope nIsSigned pIsSigned (defScope sIsSigned) := ⟨rfl, rfl, rfl, by decide +kernel, rfl, by decide +kernel, by decide +kernel⟩
abbrev nIsKind : List Str := ["value", "waiting", "part"]
abbrev pIsKind : List Str := ["value"]
theorem scIsKind : FnScope nIsKind pIsKind (defScope sIsKind) := ⟨rfl, rfl, rfl, by decide +kernel, rfl, by decide +kernel, by decide +kernel⟩
abbrev nCheckKind : List Str := ["kind"]
abbrev pCheckKind : List Str := ["kind"]
theorem scCheckKind : FnScope nCheckKind pCheckKind (defScope sCheckKind) := ⟨rfl, rfl, rfl, by decide +kernel, rfl, by decide +kernel, by decide +kernel⟩
abbrev nPartsOf : List Str := ["kind"]
abbrev pPartsOf : List Str := ["kind"]
theorem scPartsOf : FnScope nPartsOf pPartsOf (defScope sPartsOf) := ⟨rfl, rfl, rfl, by decide +kernel, rfl, by decide +kernel, by decide +kernel⟩
abbrev nKindsIn : List Str := ["kind"]
abbrev pKindsIn : List Str := ["kind"]
theorem scKindsIn : FnScope nKindsIn pKindsIn (defScope sKindsIn) := ⟨rfl, rfl, rfl, by decide +kernel, rfl, by decide +kernel, by decide +kernel⟩
abbrev nFolded : List Str := ["kind", "at_plain", "at_signed", "at_part"]
abbrev pFolded : List Str := ["kind", "at_plain", "at_signed"]
theorem scFolded : FnScope nFolded pFolded (defScope sFolded) := ⟨rfl, rfl, rfl, by decide +kernel, rfl, by decide +kernel, by decide +kernel⟩
abbrev nPlainsIn : List Str := ["kinds", "kind", "part"]
abbrev pPlainsIn : List Str := ["kinds"]
theorem scPlainsIn : FnScope nPlainsIn pPlainsIn (defScope sPlainsIn) := ⟨rfl, rfl, rfl, by decide +kernel, rfl, by decide +kernel, by decide +kernel⟩
abbrev nTurnedSign : List Str := ["sign", "first", "second"]
abbrev pTurnedSign : List Str := ["sign", "first", "second"]
theorem scTurnedSign : FnScope nTurnedSign pTurnedSign (defScope sTurnedSign) := ⟨rfl, rfl, rfl, by decide +kernel, rfl, by decide +kernel, by decide +kernel⟩
abbrev nTurned : List Str := ["kind"]
abbrev pTurned : List Str := ["kind"]
theorem scTurned : FnScope nTurned pTurned (defScope sTurned) := ⟨rfl, rfl, rfl, by decide +kernel, rfl, by decide +kernel, by decide +kernel⟩
abbrev nCheckMap : List Str := ["sent", "plains", "word"]
abbrev pCheckMap : List Str := ["sent", "plains"]
theorem scCheckMap : FnScope nCheckMap pCheckMap (defScope sCheckMap) := ⟨rfl, rfl, rfl, by decide +kernel, rfl, by decide +kernel, by decide +kernel⟩
abbrev nPutIn : List Str := ["kind", "sent"]
abbrev pPutIn : List Str := ["kind", "sent"]
theorem scPutIn : FnScope nPutIn pPutIn (defScope sPutIn) := ⟨rfl, rfl, rfl, by decide +kernel, rfl, by decide +kernel, by decide +kernel⟩
abbrev nPartsBegin : List Str := ["name"]
abbrev pPartsBegin : List Str := ["name"]
theorem scPartsBegin : FnScope nPartsBegin pPartsBegin (defScope sPartsBegin) := ⟨rfl, rfl, rfl, by decide +kernel, rfl, by decide +kernel, by decide +kernel⟩
abbrev nPartsOfKnot : List Str := ["knot"]
abbrev pPartsOfKnot : List Str := ["knot"]
theorem scPartsOfKnot : FnScope nPartsOfKnot pPartsOfKnot (defScope sPartsOfKnot) := ⟨rfl, rfl, rfl, by decide +kernel, rfl, by decide +kernel, by decide +kernel⟩
abbrev nWithParts : List Str := ["knot", "parts"]
abbrev pWithParts : List Str := ["knot", "parts"]
theorem scWithParts : FnScope nWithParts pWithParts (defScope sWithParts) := ⟨rfl, rfl, rfl, by decide +kernel, rfl, by decide +kernel, by decide +kernel⟩
abbrev nHasForm : List Str := ["value", "name"]
abbrev pHasForm : List Str := ["value"]
theorem scHasForm : FnScope nHasForm pHasForm (defScope sHasForm) := ⟨rfl, rfl, rfl, by decide +kernel, rfl, by decide +kernel, by decide +kernel⟩
abbrev nAreAllKnots : List Str := ["value", "waiting", "knot"]
abbrev pAreAllKnots : List Str := ["value"]
theorem scAreAllKnots : FnScope nAreAllKnots pAreAllKnots (defScope sAreAllKnots) := ⟨rfl, rfl, rfl, by decide +kernel, rfl, by decide +kernel, by decide +kernel⟩
abbrev nKnotsIn : List Str := ["derivation"]
abbrev pKnotsIn : List Str := ["derivation"]
theorem scKnotsIn : FnScope nKnotsIn pKnotsIn (defScope sKnotsIn) := ⟨rfl, rfl, rfl, by decide +kernel, rfl, by decide +kernel, by decide +kernel⟩
abbrev nFoldedKnots : List Str := ["derivation", "at_knot"]
abbrev pFoldedKnots : List Str := ["derivation", "at_knot"]
theorem scFoldedKnots : FnScope nFoldedKnots pFoldedKnots (defScope sFoldedKnots) := ⟨rfl, rfl, rfl, by decide +kernel, rfl, by decide +kernel, by decide +kernel⟩
abbrev nTellIs : List Str := ["knot", "told"]
abbrev pTellIs : List Str := ["knot", "told"]
theorem scTellIs : FnScope nTellIs pTellIs (defScope sTellIs) := ⟨rfl, rfl, rfl, by decide +kernel, rfl, by decide +kernel, by decide +kernel⟩
abbrev nTellOverMade : List Str := ["knot", "told", "row", "goal"]
abbrev pTellOverMade : List Str := ["knot", "told"]
theorem scTellOverMade : FnScope nTellOverMade pTellOverMade (defScope sTellOverMade) := ⟨rfl, rfl, rfl, by decide +kernel, rfl, by decide +kernel, by decide +kernel⟩
abbrev nTellUnderMade : List Str := ["knot", "told", "row", "goal"]
abbrev pTellUnderMade : List Str := ["knot", "told"]
theorem scTellUnderMade : FnScope nTellUnderMade pTellUnderMade (defScope sTellUnderMade) := ⟨rfl, rfl, rfl, by decide +kernel, rfl, by decide +kernel, by decide +kernel⟩
abbrev nTellThenMade : List Str := ["knot", "told", "row", "goal", "later_row", "later_goal"]
abbrev pTellThenMade : List Str := ["knot", "told"]
theorem scTellThenMade : FnScope nTellThenMade pTellThenMade (defScope sTellThenMade) := ⟨rfl, rfl, rfl, by decide +kernel, rfl, by decide +kernel, by decide +kernel⟩
abbrev nTellOverUsed : List Str := ["knot", "told", "place", "taken", "wanted", "row", "goal"]
abbrev pTellOverUsed : List Str := ["knot", "told"]
theorem scTellOverUsed : FnScope nTellOverUsed pTellOverUsed (defScope sTellOverUsed) := ⟨rfl, rfl, rfl, by decide +kernel, rfl, by decide +kernel, by decide +kernel⟩
abbrev nTellUnderUsed : List Str := ["knot", "told", "place", "taken", "wanted", "row", "goal"]
abbrev pTellUnderUsed : List Str := ["knot", "told"]
theorem scTellUnderUsed : FnScope nTellUnderUsed pTellUnderUsed (defScope sTellUnderUsed) := ⟨rfl, rfl, rfl, by decide +kernel, rfl, by decide +kernel, by decide +kernel⟩
abbrev nTellThenUsed : List Str := ["knot", "told", "place", "row", "goal"]
abbrev pTellThenUsed : List Str := ["knot", "told"]
theorem scTellThenUsed : FnScope nTellThenUsed pTellThenUsed (defScope sTellThenUsed) := ⟨rfl, rfl, rfl, by decide +kernel, rfl, by decide +kernel, by decide +kernel⟩
abbrev nTellCut : List Str := ["knot", "told", "place", "taken", "wanted", "row", "goal"]
abbrev pTellCut : List Str := ["knot", "told"]
theorem scTellCut : FnScope nTellCut pTellCut (defScope sTellCut) := ⟨rfl, rfl, rfl, by decide +kernel, rfl, by decide +kernel, by decide +kernel⟩
abbrev nTell : List Str := ["knot", "told", "teller"]
abbrev pTell : List Str := ["knot", "told"]
theorem scTell : FnScope nTell pTell (defScope sTell) := ⟨rfl, rfl, rfl, by decide +kernel, rfl, by decide +kernel, by decide +kernel⟩
abbrev nTellingOf : List Str := ["value"]
abbrev pTellingOf : List Str := ["value"]
theorem scTellingOf : FnScope nTellingOf pTellingOf (defScope sTellingOf) := ⟨rfl, rfl, rfl, by decide +kernel, rfl, by decide +kernel, by decide +kernel⟩
abbrev nIsDerivation : List Str := ["value"]
abbrev pIsDerivation : List Str := ["value"]
theorem scIsDerivation : FnScope nIsDerivation pIsDerivation (defScope sIsDerivation) := ⟨rfl, rfl, rfl, by decide +kernel, rfl, by decide +kernel, by decide +kernel⟩
abbrev nCheckDerivation : List Str := ["derivation"]
abbrev pCheckDerivation : List Str := ["derivation"]
theorem scCheckDerivation : FnScope nCheckDerivation pCheckDerivation (defScope sCheckDerivation) := ⟨rfl, rfl, rfl, by decide +kernel, rfl, by decide +kernel, by decide +kernel⟩
abbrev nToldBy : List Str := ["derivation", "told"]
abbrev pToldBy : List Str := ["derivation"]
theorem scToldBy : FnScope nToldBy pToldBy (defScope sToldBy) := ⟨rfl, rfl, rfl, by decide +kernel, rfl, by decide +kernel, by decide +kernel⟩
abbrev nCutsOf : List Str := ["derivation", "knot"]
abbrev pCutsOf : List Str := ["derivation"]
theorem scCutsOf : FnScope nCutsOf pCutsOf (defScope sCutsOf) := ⟨rfl, rfl, rfl, by decide +kernel, rfl, by decide +kernel, by decide +kernel⟩
abbrev nTurnedPlaced : List Str := ["knot", "parts", "name", "turned_parts", "width", "taken", "turned_knot", "part"]
abbrev pTurnedPlaced : List Str := ["knot", "parts"]
theorem scTurnedPlaced : FnScope nTurnedPlaced pTurnedPlaced (defScope sTurnedPlaced) := ⟨rfl, rfl, rfl, by decide +kernel, rfl, by decide +kernel, by decide +kernel⟩
abbrev nTurnedKnot : List Str := ["knot", "parts", "name", "one", "width", "other", "other_width", "part"]
abbrev pTurnedKnot : List Str := ["knot", "parts"]
theorem scTurnedKnot : FnScope nTurnedKnot pTurnedKnot (defScope sTurnedKnot) := ⟨rfl, rfl, rfl, by decide +kernel, rfl, by decide +kernel, by decide +kernel⟩
abbrev nTurnedDerivation : List Str := ["derivation"]
abbrev pTurnedDerivation : List Str := ["derivation"]
theorem scTurnedDerivation : FnScope nTurnedDerivation pTurnedDerivation (defScope sTurnedDerivation) := ⟨rfl, rfl, rfl, by decide +kernel, rfl, by decide +kernel, by decide +kernel⟩
abbrev nWithPut : List Str := ["derivation", "sent", "put_at", "knot"]
abbrev pWithPut : List Str := ["derivation", "sent"]
theorem scWithPut : FnScope nWithPut pWithPut (defScope sWithPut) := ⟨rfl, rfl, rfl, by decide +kernel, rfl, by decide +kernel, by decide +kernel⟩
abbrev nPlainStep : List Str := ["sign", "first", "second"]
abbrev pPlainStep : List Str := ["sign", "first", "second"]
theorem scPlainStep : FnScope nPlainStep pPlainStep (defScope sPlainStep) := ⟨rfl, rfl, rfl, by decide +kernel, rfl, by decide +kernel, by decide +kernel⟩
abbrev nPlainKnot : List Str := ["knot", "parts"]
abbrev pPlainKnot : List Str := ["knot", "parts"]
theorem scPlainKnot : FnScope nPlainKnot pPlainKnot (defScope sPlainKnot) := ⟨rfl, rfl, rfl, by decide +kernel, rfl, by decide +kernel, by decide +kernel⟩
abbrev nPlainOut : List Str := ["derivation"]
abbrev pPlainOut : List Str := ["derivation"]
theorem scPlainOut : FnScope nPlainOut pPlainOut (defScope sPlainOut) := ⟨rfl, rfl, rfl, by decide +kernel, rfl, by decide +kernel, by decide +kernel⟩
abbrev nCutIn : List Str := ["one", "other", "place", "goal", "row"]
abbrev pCutIn : List Str := ["one", "other", "place"]
theorem scCutIn : FnScope nCutIn pCutIn (defScope sCutIn) := ⟨rfl, rfl, rfl, by decide +kernel, rfl, by decide +kernel, by decide +kernel⟩
abbrev nLPurse : List Str := ["script", "at", "seed"]
abbrev pLPurse : List Str := ["script", "at"]
theorem scLPurse : FnScope nLPurse pLPurse (defScope sLPurse) := ⟨rfl, rfl, rfl, by decide +kernel, rfl, by decide +kernel, by decide +kernel⟩
abbrev nLMixed : List Str := ["seed", "spin", "at", "mixed"]
abbrev pLMixed : List Str := ["seed", "spin", "at"]
theorem scLMixed : FnScope nLMixed pLMixed (defScope sLMixed) := ⟨rfl, rfl, rfl, by decide +kernel, rfl, by decide +kernel, by decide +kernel⟩
abbrev nLDraw : List Str := ["purse", "many", "drawn", "found", "piece"]
abbrev pLDraw : List Str := ["purse", "many"]
theorem scLDraw : FnScope nLDraw pLDraw (defScope sLDraw) := ⟨rfl, rfl, rfl, by decide +kernel, rfl, by decide +kernel, by decide +kernel⟩
abbrev nLPurses : List Str := ["script", "few", "at"]
abbrev pLPurses : List Str := ["script", "few"]
theorem scLPurses : FnScope nLPurses pLPurses (defScope sLPurses) := ⟨rfl, rfl, rfl, by decide +kernel, rfl, by decide +kernel, by decide +kernel⟩
abbrev nLOneOf : List Str := ["purse", "some"]
abbrev pLOneOf : List Str := ["purse", "some"]
theorem scLOneOf : FnScope nLOneOf pLOneOf (defScope sLOneOf) := ⟨rfl, rfl, rfl, by decide +kernel, rfl, by decide +kernel, by decide +kernel⟩
abbrev nLShuffled : List Str := ["purse", "some", "found", "item"]
abbrev pLShuffled : List Str := ["purse", "some"]
theorem scLShuffled : FnScope nLShuffled pLShuffled (defScope sLShuffled) := ⟨rfl, rfl, rfl, by decide +kernel, rfl, by decide +kernel, by decide +kernel⟩
abbrev nLSame : List Str := ["thing", "item", "key"]
abbrev pLSame : List Str := ["thing"]
theorem scLSame : FnScope nLSame pLSame (defScope sLSame) := ⟨rfl, rfl, rfl, by decide +kernel, rfl, by decide +kernel, by decide +kernel⟩
abbrev nLExact : List Str := ["mine", "theirs", "alike", "a", "b", "key"]
abbrev pLExact : List Str := ["mine", "theirs"]
theorem scLExact : FnScope nLExact pLExact (defScope sLExact) := ⟨rfl, rfl, rfl, by decide +kernel, rfl, by decide +kernel, by decide +kernel⟩
abbrev nLWord : List Str := ["purse", "size", "spin"]
abbrev pLWord : List Str := ["purse"]
theorem scLWord : FnScope nLWord pLWord (defScope sLWord) := ⟨rfl, rfl, rfl, by decide +kernel, rfl, by decide +kernel, by decide +kernel⟩
abbrev nLWords : List Str := ["purse", "many", "base", "near", "spot", "found", "spin", "word", "letter"]
abbrev pLWords : List Str := ["purse", "many"]
theorem scLWords : FnScope nLWords pLWords (defScope sLWords) := ⟨rfl, rfl, rfl, by decide +kernel, rfl, by decide +kernel, by decide +kernel⟩
abbrev nLPlains : List Str := ["purse", "most"]
abbrev pLPlains : List Str := ["purse", "most"]
theorem scLPlains : FnScope nLPlains pLPlains (defScope sLPlains) := ⟨rfl, rfl, rfl, by decide +kernel, rfl, by decide +kernel, by decide +kernel⟩
abbrev nLKind : List Str := ["purse", "plains", "signs", "first", "one", "other"]
abbrev pLKind : List Str := ["purse", "plains", "signs"]
theorem scLKind : FnScope nLKind pLKind (defScope sLKind) := ⟨rfl, rfl, rfl, by decide +kernel, rfl, by decide +kernel, by decide +kernel⟩
abbrev nLSigns : List Str := ["kind"]
abbrev pLSigns : List Str := ["kind"]
theorem scLSigns : FnScope nLSigns pLSigns (defScope sLSigns) := ⟨rfl, rfl, rfl, by decide +kernel, rfl, by decide +kernel, by decide +kernel⟩
abbrev nLPlainList : List Str := ["kind"]
abbrev pLPlainList : List Str := ["kind"]
theorem scLPlainList : FnScope nLPlainList pLPlainList (defScope sLPlainList) := ⟨rfl, rfl, rfl, by decide +kernel, rfl, by decide +kernel, by decide +kernel⟩
abbrev nLPlainWords : List Str := ["kinds", "word", "kind"]
abbrev pLPlainWords : List Str := ["kinds"]
theorem scLPlainWords : FnScope nLPlainWords pLPlainWords (defScope sLPlainWords) := ⟨rfl, rfl, rfl, by decide +kernel, rfl, by decide +kernel, by decide +kernel⟩
abbrev nLTurned : List Str := ["kind"]
abbrev pLTurned : List Str := ["kind"]
theorem scLTurned : FnScope nLTurned pLTurned (defScope sLTurned) := ⟨rfl, rfl, rfl, by decide +kernel, rfl, by decide +kernel, by decide +kernel⟩
abbrev nLIsPlace : List Str := ["value", "many"]
abbrev pLIsPlace : List Str := ["value", "many"]
theorem scLIsPlace : FnScope nLIsPlace pLIsPlace (defScope sLIsPlace) := ⟨rfl, rfl, rfl, by decide +kernel, rfl, by decide +kernel, by decide +kernel⟩
abbrev nLIsKind : List Str := ["value", "letter"]
abbrev pLIsKind : List Str := ["value"]
theorem scLIsKind : FnScope nLIsKind pLIsKind (defScope sLIsKind) := ⟨rfl, rfl, rfl, by decide +kernel, rfl, by decide +kernel, by decide +kernel⟩
abbrev nLToldUsed : List Str := ["value", "word", "place", "one", "other", "row", "kind", "late"]
abbrev pLToldUsed : List Str := ["value"]
theorem scLToldUsed : FnScope nLToldUsed pLToldUsed (defScope sLToldUsed) := ⟨rfl, rfl, rfl, by decide +kernel, rfl, by decide +kernel, by decide +kernel⟩
abbrev nLToldMade : List Str := ["value", "told", "row", "goal"]
abbrev pLToldMade : List Str := ["value"]
theorem scLToldMade : FnScope nLToldMade pLToldMade (defScope sLToldMade) := ⟨rfl, rfl, rfl, by decide +kernel, rfl, by decide +kernel, by decide +kernel⟩
abbrev nLTells : List Str := ["value", "word", "one", "other", "told", "row", "place"]
abbrev pLTells : List Str := ["value"]
theorem scLTells : FnScope nLTells pLTells (defScope sLTells) := ⟨rfl, rfl, rfl, by decide +kernel, rfl, by decide +kernel, by decide +kernel⟩
abbrev nLInner : List Str := ["derivation", "part"]
abbrev pLInner : List Str := ["derivation"]
theorem scLInner : FnScope nLInner pLInner (defScope sLInner) := ⟨rfl, rfl, rfl, by decide +kernel, rfl, by decide +kernel, by decide +kernel⟩
abbrev nLManyCuts : List Str := ["derivation", "part"]
abbrev pLManyCuts : List Str := ["derivation"]
theorem scLManyCuts : FnScope nLManyCuts pLManyCuts (defScope sLManyCuts) := ⟨rfl, rfl, rfl, by decide +kernel, rfl, by decide +kernel, by decide +kernel⟩
abbrev nLOpened : List Str := ["kind", "one", "other"]
abbrev pLOpened : List Str := ["kind"]
theorem scLOpened : FnScope nLOpened pLOpened (defScope sLOpened) := ⟨rfl, rfl, rfl, by decide +kernel, rfl, by decide +kernel, by decide +kernel⟩
abbrev nLMinor : List Str := ["purse", "plains", "kind", "way", "late"]
abbrev pLMinor : List Str := ["purse", "plains", "kind"]
theorem scLMinor : FnScope nLMinor pLMinor (defScope sLMinor) := ⟨rfl, rfl, rfl, by decide +kernel, rfl, by decide +kernel, by decide +kernel⟩
abbrev nLOneRule : List Str := ["purse", "plains", "derivation", "row", "way", "place", "late", "waited"]
abbrev pLOneRule : List Str := ["purse", "plains", "derivation"]
theorem scLOneRule : FnScope nLOneRule pLOneRule (defScope sLOneRule) := ⟨rfl, rfl, rfl, by decide +kernel, rfl, by decide +kernel, by decide +kernel⟩
abbrev nLDerivation : List Str := ["purse", "plains", "many", "found", "spin", "late"]
abbrev pLDerivation : List Str := ["purse", "plains", "many"]
theorem scLDerivation : FnScope nLDerivation pLDerivation (defScope sLDerivation) := ⟨rfl, rfl, rfl, by decide +kernel, rfl, by decide +kernel, by decide +kernel⟩
abbrev nLEnds : List Str := ["derivation", "part"]
abbrev pLEnds : List Str := ["derivation"]
theorem scLEnds : FnScope nLEnds pLEnds (defScope sLEnds) := ⟨rfl, rfl, rfl, by decide +kernel, rfl, by decide +kernel, by decide +kernel⟩
abbrev nLPut : List Str := ["kind", "sent"]
abbrev pLPut : List Str := ["kind", "sent"]
theorem scLPut : FnScope nLPut pLPut (defScope sLPut) := ⟨rfl, rfl, rfl, by decide +kernel, rfl, by decide +kernel, by decide +kernel⟩
abbrev nLPutAll : List Str := ["derivation", "sent", "part"]
abbrev pLPutAll : List Str := ["derivation", "sent"]
theorem scLPutAll : FnScope nLPutAll pLPutAll (defScope sLPutAll) := ⟨rfl, rfl, rfl, by decide +kernel, rfl, by decide +kernel, by decide +kernel⟩
abbrev nLAbout : List Str := ["derivation", "word", "other", "row"]
abbrev pLAbout : List Str := ["derivation"]
theorem scLAbout : FnScope nLAbout pLAbout (defScope sLAbout) := ⟨rfl, rfl, rfl, by decide +kernel, rfl, by decide +kernel, by decide +kernel⟩
abbrev nLChangesRight : List Str := ["purse", "plains", "derivation", "row", "goal", "late", "sent", "kept", "told", "spelt", "word", "kind"]
abbrev pLChangesRight : List Str := ["purse", "plains", "derivation"]
theorem scLChangesRight : FnScope nLChangesRight pLChangesRight (defScope sLChangesRight) := ⟨rfl, rfl, rfl, by decide +kernel, rfl, by decide +kernel, by decide +kernel⟩
abbrev nLCutsRight : List Str := ["purse", "plains", "derivation", "row", "goal", "place", "kind", "one", "told", "stretch"]
abbrev pLCutsRight : List Str := ["purse", "plains", "derivation"]
theorem scLCutsRight : FnScope nLCutsRight pLCutsRight (defScope sLCutsRight) := ⟨rfl, rfl, rfl, by decide +kernel, rfl, by decide +kernel, by decide +kernel⟩
abbrev nLaw : List Str := ["script", "purse", "plains", "spin", "derivation", "kept", "deep", "kind", "turn"]
abbrev pLaw : List Str := ["script"]
theorem scLaw : FnScope nLaw pLaw (defScope sLaw) := ⟨rfl, rfl, rfl, by decide +kernel, rfl, by decide +kernel, by decide +kernel⟩
/-- a def of the top, as it stands behind it -/
structure Top (K : Frag) (mg : Str → Option Value) (x : Str) (st : Stmt) (ps : List Str) (f : Addr) (fd : FuncData) : Prop where
  F : Fun K x x st f fd
  g : mg x = some (.ref f)
  b : Binds K fd ps []
/-- the built-in names that are asked for -/
structure Blt (mg : Str → Option Value) : Prop where
  sum : mg "sum" = none
  int : mg "int" = none
  max : mg "max" = none
  min : mg "min" = none
  len : mg "len" = none
  range : mg "range" = none
  isi : mg "isinstance" = none
  list : mg "list" = none
  dict : mg "dict" = none
  tuple : mg "tuple" = none
  all : mg "all" = none
  str_ : mg "str" = none
  bool_ : mg "bool" = none
  sorted : mg "sorted" = none
  set : mg "set" = none
  reversed : mg "reversed" = none
  zip : mg "zip" = none
end U6

namespace U6
open PySem PySem.Spec PyProof.Rows L2
open PySem.W (Frag)
open TL (joinL tl tl_join)
section
variable {X : Cx}
/-- i ** j of great numbers -/
theorem op_powB : OpR X (binaryOp .Pow) (rI (fun i j => 0 ≤ j ∧ (Builtin.Int.intBits i : Int) * j ≤ 2 ^ 27) fun i j => .int (i ^ j.toNat)) :=
  opI fun i j t u s Q E c q => PyProof.Rows.pow_int c.1 c.2 q
end
section
variable {P : Program} {w : World} {K : Frag} {mg : Str → Option Value} {base : Heap}
/-! ### draws -/
/-- a purse at a, of which at most n draws were made -/
def PurseAt (H : Hp) (a : Addr) (n : Nat) : Prop := ∃ p0 p1 p2 p3 : Int, H a = some (.lst [.int p0, .int p1, .int p2, .int p3]) ∧ 0 ≤ p0 ∧ 0 ≤ p1 ∧ p1 < 2147483629 ∧ 0 ≤ p2 ∧ p2 ≤ n ∧ 0 ≤ p3 ∧ p3 ≤ 63
def spMixed : Sp := fun vs H Q _ => ∃ seed spin at_ : Int, vs = [.int seed, .int spin, .int at_] ∧ 0 ≤ seed ∧ seed < 2147483629 ∧ 0 ≤ spin ∧ spin ≤ 1099511627776 ∧ 0 ≤ at_ ∧ at_ ≤ 63 ∧ ∀ m : Int, 0 ≤ m → m < 2147483587 → Q (.int m) H
theorem ok_mixed {f : Addr} {fd : FuncData} (T : Top K mg "_law_mixed" sLMixed ["seed", "spin", "at"] f fd) (B : Blt mg) : FnOk P w K mg base CX0 1 f fd ["seed", "spin", "at"] spMixed := by
  refine T.F.ok scLMixed (fun vs H Q E h => ?_) (fun cdv A outer s H vs Q E hr h => ?_)
  · obtain ⟨_, _, _, rfl, _⟩ := h
    rfl
  · obtain ⟨seed, spin, at_, rfl, h0, h1, h2, h3, h4, h5, k⟩ := h
    refine ⟨_, (pss_cons (ps_set (i := 3) scLMixed.nd rfl (Or.inl rfl) (pe_op op_add (pe_op op_mul (pv 0) pe_int) (pe_op op_mul (pe_op op_mul pe_int (pv 1)) (pv 1))))
      (pss_cons (ps_set (i := 3) scLMixed.nd rfl (Or.inl rfl) (pe_op op_mod (pe_callTy call_int1 (by rfl) B.int (by decide +kernel) (pa_cons (pe_op op_add (pe_op op_add (pv 3) (pe_op op_mul pe_int (pv 2))) (pv 1)) pa_nil)) pe_int))
      (pss_cons (ps_set (i := 3) scLMixed.nd rfl (Or.inl rfl) (pe_op op_mod (pe_callTy call_int1 (by rfl) B.int (by decide +kernel) (pa_cons (pe_op op_add (pe_op op_mul (pv 3) (pv 3)) pe_int) pa_nil)) pe_int))
      (pss_one (ps_ret (pe_op op_mod (pe_callTy call_int1 (by rfl) B.int (by decide +kernel) (pa_cons (pe_op op_mul (pv 3) pe_int) pa_nil)) pe_int)))))), ?_⟩
    refine ⟨_, rfl, _, _, rfl, rfl, .inl ⟨by omega, by omega⟩, _, rfl, _, _, rfl, rfl, .inl ⟨by decide, by decide⟩, _, rfl, _, _, rfl, rfl, .inr ⟨by omega, by omega⟩, _, _, rfl, rfl, ?_⟩
    refine ⟨_, rfl, _, rfl, _, _, rfl, rfl, .inl ⟨by decide, by decide⟩, _, _, rfl, rfl, _, rfl, _, _, rfl, rfl, .inl ⟨_, rfl, _, _, rfl, rfl, (by show (0 : Int) < 2147483647; decide), ?_⟩⟩
    generalize e1 : (seed * 69069 + 104729 * spin * spin + 7919 * at_ + spin) % 2147483647 = m1
    have b1 : 0 ≤ m1 ∧ m1 < 2147483647 := by omega
    refine ⟨_, rfl, _, rfl, _, _, rfl, rfl, .inl ⟨by omega, by omega⟩, _, _, rfl, rfl, .inl ⟨_, rfl, _, _, rfl, rfl, (by show (0 : Int) < 2147483629; decide), ?_⟩⟩
    generalize e2 : (m1 * m1 + 40503) % 2147483629 = m2
    have b2 : 0 ≤ m2 ∧ m2 < 2147483629 := by omega
    refine ⟨_, rfl, _, _, rfl, rfl, .inl ⟨by omega, by omega⟩, .inl ⟨_, rfl, _, _, rfl, rfl, (by show (0 : Int) < 2147483587; decide), ?_⟩⟩
    exact k _ (by omega) (by omega)
def spDraw : Sp := fun vs H Q _ => ∃ (a : Addr) (n : Nat) (many : Int), vs = [.ref a, .int many] ∧ PurseAt H a n ∧ n ≤ 1000000000000 ∧ 1 ≤ many ∧ many < 1048576 ∧
  ∀ (d : Int) (H' : Hp), 0 ≤ d → d < many → (∀ b, b ≠ a → H' b = H b) → PurseAt H' a (n + 1) → Q (.int d) H'
theorem bits_small {m : Int} (h1 : 1 ≤ m) (h2 : m < 1048576) : (1 : Int) + ((Builtin.Int.intBits m : Nat) : Int) / 28 = 1 := by
  have b : Builtin.Int.intBits m ≤ 20 := by
    unfold Builtin.Int.intBits
    split
    · omega
    · have e : m.natAbs < 2 ^ 20 := by
        have : (2 : Nat) ^ 20 = 1048576 := by decide
        omega
      have := (Nat.log2_lt (by omega)).mpr e
      omega
  omega
theorem ok_draw {f fm : Addr} {fd fdm : FuncData} (T : Top K mg "_law_draw" sLDraw ["purse", "many"] f fd) (TM : Top K mg "_law_mixed" sLMixed ["seed", "spin", "at"] fm fdm) (B : Blt mg) :
    FnOk P w K mg base CX0 2 f fd ["purse", "many"] spDraw := by
  have GM : FnOk P w K mg base CX0 1 fm fdm ["seed", "spin", "at"] spMixed := ok_mixed TM B
  refine T.F.ok scLDraw (fun vs H Q E h => ?_) (fun cdv A outer s H vs Q E hr h => ?_)
  · obtain ⟨_, _, _, rfl, _⟩ := h
    rfl
  · obtain ⟨a, n, many, rfl, ⟨p0, p1, p2, p3, hp, h0, h1, h1', h2, h2', h3, h3'⟩, hn, hm1, hm2, k⟩ := h
    refine ⟨_, (pss_cons (ps_if (pt_cmpR op_gt (pe_ix ix_list (pv 0) pe_int (fun _ _ => rfl)) pe_int (nomark _))
        (pss_cons (ps_set (i := 2) scLDraw.nd rfl (Or.inl rfl) (pe_op op_mod (pe_callTy call_int1 (by rfl) B.int (by decide +kernel) (pa_cons (pe_ix ix_list (pv 0) pe_int (fun _ _ => rfl)) pa_nil)) (pv 1)))
      (pss_cons (ps_asg (pe_op op_fdiv (pe_ix ix_list (pv 0) pe_int (fun _ _ => rfl)) (pv 1)) (pg_sub (pv 0) pe_int set_list))
      (pss_one (ps_ret (pv 2))))) pss_nil)
      (pss_cons (ps_set (i := 3) scLDraw.nd rfl (Or.inl rfl) pe_int)
      (pss_cons (ps_for PassesOwn.never rfl (pi_range1 (by rfl) B.range (pa_cons (pe_op op_add pe_int (pe_op op_fdiv (pe_bits (pv 1)) pe_int)) pa_nil)) (pg_name (i := 4) scLDraw.nd rfl (Or.inl rfl))
        (pss_cons (ps_asg (pe_op op_add (pe_ix ix_list (pv 0) pe_int (fun _ _ => rfl)) pe_int) (pg_sub (pv 0) pe_int set_list))
      (pss_one (ps_set (i := 3) scLDraw.nd rfl (Or.inl rfl) (pe_op op_add (pe_op op_mul (pv 3) pe_int) (pe_call GM hr rfl TM.g TM.F.kp TM.b .nil pass0 (pa_cons (pe_ix ix_list (pv 0) pe_int (fun _ _ => rfl)) (pa_cons (pe_ix ix_list (pv 0) pe_int (fun _ _ => rfl)) (pa_cons (pe_ix ix_list (pv 0) pe_int (fun _ _ => rfl)) pa_nil)))))))))
      (pss_one (ps_ret (pe_op op_mod (pe_callTy call_int1 (by rfl) B.int (by decide +kernel) (pa_cons (pv 3) pa_nil)) (pv 1))))))), ?_⟩
    refine ⟨_, rfl, _, _, _, _, rfl, rfl, SqL.of hp, atI_nat (j := 0) rfl, _, _, rfl, rfl, _, rfl, ite2 (fun c => ?_) (fun c => ?_)⟩
    · have c' : 0 < p0 := of_decide_eq_true c
      refine ⟨_, rfl, _, _, _, _, rfl, rfl, SqL.of hp, atI_nat (j := 0) rfl, .inl ⟨_, rfl, _, rfl, _, _, rfl, rfl, (by show 0 < many; omega), ?_⟩⟩
      refine ⟨_, rfl, _, _, _, _, rfl, rfl, SqL.of hp, atI_nat (j := 0) rfl, _, rfl, _, _, rfl, rfl, ⟨by omega, by omega⟩, _, rfl, _, _, _, 0, rfl, rfl, hp, rfl, _, rfl, ?_⟩
      refine k _ _ (Int.emod_nonneg _ (by omega)) (Int.emod_lt_of_pos _ (by omega)) (fun b hb => upd_ne hb) ⟨p0 / many, p1, p2, p3, upd_same, Int.ediv_nonneg h0 (by omega), h1, h1', h2, by omega, h3, h3'⟩
    · refine ⟨_, rfl, _, rfl, _, _, rfl, rfl, ⟨by decide, by decide⟩, _, _, rfl, rfl, _, rfl, ?_, ?_, ?_⟩
      · rw [bits_small hm1 hm2]
        decide
      · rw [bits_small hm1 hm2]
        decide
      rw [bits_small hm1 hm2]
      refine for_range (lo := 0) (n := 1) (fun i σ H' => ∃ (v2 v4 : Option V) (z : Int), σ = [some (.ref a), some (.int many), v2, some (.int z), v4] ∧ (i = 0 → z = 0 ∧ H' = H) ∧ (i = 1 → (∀ b, b ≠ a → H' b = H b) ∧ PurseAt H' a (n + 1)))
        ⟨_, _, 0, rfl, fun _ => ⟨rfl, rfl⟩, fun e => by cases e⟩ ?_ ?_
      · rintro i σ H' hi ⟨v2, v4, z, rfl, hz, _⟩
        obtain rfl : i = 0 := by omega
        obtain ⟨rfl, rfl⟩ := hz rfl
        refine ⟨_, rfl, _, _, _, _, rfl, rfl, SqL.of hp, atI_nat (j := 2) rfl, _, _, rfl, rfl, _, rfl, _, _, _, 2, rfl, rfl, hp, rfl, ?_⟩
        refine ⟨_, rfl, _, _, rfl, rfl, .inl ⟨by decide, by decide⟩, _, rfl, _, _, _, _, rfl, rfl, SqL.of upd_same, atI_nat (j := 1) rfl, _, rfl, _, _, _, _, rfl, rfl, SqL.of upd_same, atI_nat (j := 2) rfl, _, rfl, _, _, _, _, rfl, rfl, SqL.of upd_same, atI_nat (j := 3) rfl, ?_⟩
        refine ⟨_, _, _, rfl, h1, h1', by omega, by omega, h3, h3', fun m m0 m1 => ⟨_, _, rfl, rfl, ?_⟩⟩
        exact ⟨_, _, _, rfl, (fun e => by cases e), fun _ => ⟨fun b hb => upd_ne hb, p0, p1, p2 + 1, p3, upd_same, h0, h1, h1', by omega, by omega, h3, h3'⟩⟩
      · rintro σ H' ⟨v2, v4, z, rfl, _, hz⟩
        obtain ⟨z1, z2⟩ := hz rfl
        exact ⟨_, rfl, .inl ⟨_, rfl, _, rfl, _, _, rfl, rfl, (by show 0 < many; omega), k _ _ (Int.emod_nonneg _ (by omega)) (Int.emod_lt_of_pos _ (by omega)) z1 z2⟩⟩
/-! ### purses -/
theorem cut_ints (ns : List Int) (lo hi : Option Int) : ∃ ms : List Int, cutV (ns.map V.int) lo hi = ms.map V.int := by
  unfold cutV
  exact ⟨_, by rw [List.map_take, List.map_drop]⟩
def spPurse (K : Frag) : Sp := fun vs H Q _ => ∃ (a : Addr) (ns : List Int) (i : Int), vs = [.ref a, .int i] ∧ SqL K H a (ns.map V.int) ∧ 0 ≤ i ∧ i ≤ 63 ∧ ∀ (p : Addr) (H' : Hp), Same H H' → H p = none → PurseAt H' p 0 → Q (.ref p) H'
theorem same_upd {H : Hp} {p : Addr} {o : HO} (h : H p = none) : Same H (upd H p o) := fun b u e => by
  rw [upd_ne (ne_of_none e h)]
  exact e
theorem ok_purse {f : Addr} {fd : FuncData} (T : Top K mg "_law_purse" sLPurse ["script", "at"] f fd) (B : Blt mg) : FnOk P w K mg base CX0 1 f fd ["script", "at"] (spPurse K) := by
  refine T.F.ok scLPurse (fun vs H Q E h => ?_) (fun cdv A outer s H vs Q E hr h => ?_)
  · obtain ⟨_, _, _, rfl, _⟩ := h
    rfl
  · obtain ⟨a, ns, i, rfl, hS, i0, i1, k⟩ := h
    refine ⟨_, (pss_cons (ps_set (i := 2) scLPurse.nd rfl (Or.inl rfl) (pe_callB (cr_sum rfl) (by rfl) B.sum (by decide +kernel) (pa_cons (pe_slice sl_list (pv 0) (po_some (pv 1)) (po_some (pe_op op_add (pv 1) pe_int))) pa_nil)))
      (pss_one (ps_ret (pe_lst (pa_cons (pe_op op_mod (pe_callTy call_int1 (by rfl) B.int (by decide +kernel) (pa_cons (pe_callB (call_max2 rfl) (by rfl) B.max (by decide +kernel) (pa_cons (pe_op op_sub (pv 2) (pe_op op_pow pe_int pe_int)) (pa_cons pe_int pa_nil))) pa_nil)) (pe_op op_powB (pe_op op_pow pe_int pe_int) pe_int)) (pa_cons (pe_op op_mod (pe_callTy call_int1 (by rfl) B.int (by decide +kernel) (pa_cons (pv 2) pa_nil)) pe_int) (pa_cons pe_int (pa_cons (pv 1) pa_nil)))))))), ?_⟩
    obtain ⟨ms, em⟩ := cut_ints ns (some i) (some (i + 1))
    refine ⟨_, rfl, _, rfl, i, rfl, _, rfl, _, _, rfl, rfl, i + 1, rfl, a, _, rfl, hS, fun q hq => ⟨q, ms, rfl, ?_, ?_⟩⟩
    · rw [em]
      exact SqL.of upd_same
    · refine ⟨_, rfl, _, _, rfl, rfl, ⟨by decide, by decide, by decide⟩, _, _, rfl, rfl, _, _, rfl, .inl ⟨_, rfl, _, _, rfl, rfl, ⟨by decide, by decide, by decide⟩, _, _, rfl, rfl, ⟨by decide, by decide +kernel⟩, _, _, rfl, rfl, (show (0 : Int) < (10 ^ (60 : Int).toNat) ^ (8 : Int).toNat by decide +kernel), ?_⟩⟩
      refine ⟨_, rfl, .inl ⟨_, rfl, _, _, rfl, rfl, (by show (0 : Int) < 2147483629; decide), _, rfl, (by show 4 ≤ sizeLine; decide), fun p hp => ?_⟩⟩
      have hp0 : H p = none := (same_upd hq).free hp
      refine k p _ ((same_upd hq).trans (same_upd hp)) hp0 ⟨_, _, 0, i, upd_same, Int.emod_nonneg _ (by decide +kernel), Int.emod_nonneg _ (by decide), Int.emod_lt_of_pos _ (by decide), Int.le_refl _, Int.le_refl _, i0, i1⟩
def spPurses (K : Frag) : Sp := fun vs H Q _ => ∃ (a : Addr) (ns : List Int), vs = [.ref a, .int 1] ∧ SqL K H a (ns.map V.int) ∧
  ∀ (L p : Addr) (H' : Hp), Same H H' → H L = none → H p = none → L ≠ p → H' L = some (.lst [.ref p]) → PurseAt H' p 0 → Q (.ref L) H'
theorem ok_purses {f fp : Addr} {fd fdp : FuncData} (T : Top K mg "_law_purses" sLPurses ["script", "few"] f fd) (TP : Top K mg "_law_purse" sLPurse ["script", "at"] fp fdp) (B : Blt mg) :
    FnOk P w K mg base CX0 2 f fd ["script", "few"] (spPurses K) := by
  have GP : FnOk P w K mg base CX0 1 fp fdp ["script", "at"] (spPurse K) := ok_purse TP B
  refine T.F.ok scLPurses (fun vs H Q E h => ?_) (fun cdv A outer s H vs Q E hr h => ?_)
  · obtain ⟨_, _, rfl, _⟩ := h
    rfl
  · obtain ⟨a, ns, rfl, hS, k⟩ := h
    refine ⟨_, pss_one (ps_ret (pe_lc (own := [("at", 2)]) (g := gName 2) (tt := tYes) rfl scLPurses.nd (pi_range1 (by rfl) B.range (pa_cons (pe_callB (call_max2 rfl) (by rfl) B.max (by decide +kernel) (pa_cons pe_int (pa_cons (pe_callB (call_min2 rfl) (by rfl) B.min (by decide +kernel) (pa_cons (pv 1) (pa_cons (pe_callB call_len_seq (by rfl) B.len PySem.boot_len (pa_cons (pv 0) pa_nil)) pa_nil))) pa_nil))) pa_nil))
      (blkOk_by (N := ["script", "few", "at"]) (sc := defScope sLPurses) (by decide +kernel)) (fun _ _ _ _ _ => pg_name (i := 2) scLPurses.nd rfl (Or.inl rfl)) (fun _ _ _ _ _ => pts_nil)
      (fun _ _ _ _ _ => (pe_call GP hr rfl TP.g TP.F.kp TP.b .nil pass0 (pa_cons (pv 0) (pa_cons (pv 2) pa_nil)))))), ?_⟩
    have e : ∀ m : Nat, (if (if (m : Int) < 1 then (m : Int) else 1) > 1 then (if (m : Int) < 1 then (m : Int) else 1) else 1) = (1 : Int) := by
      intro m
      split <;> split <;> omega
    refine ⟨_, rfl, _, rfl, a, _, rfl, .inl hS, _, _, rfl, _, _, rfl, _, rfl, ?_, ?_, ?_⟩
    · rw [e]
      decide
    · rw [e]
      decide
    rw [e]
    intro D hD
    refine lc_range (lo := 0) (n := 1) (fun i H' => (i = 0 → H' = upd H D (.lst [])) ∧ (i = 1 → ∃ p, Same H H' ∧ H p = none ∧ D ≠ p ∧ H' D = some (.lst [.ref p]) ∧ PurseAt H' p 0))
      ⟨fun _ => rfl, fun e => by cases e⟩ ?_ ?_
    · rintro i H' hi ⟨hz, _⟩
      obtain rfl : i = 0 := by omega
      obtain rfl := hz rfl
      refine ⟨rfl, _, rfl, _, rfl, a, ns, _, rfl, (same_upd hD).seq hS, by decide, by decide, fun p H2 s2 np h2 => ?_⟩
      have nDp : D ≠ p := ne_of_none upd_same np
      have eD : H2 D = some (.lst []) := s2 _ _ upd_same
      refine ⟨[], eD, by decide, fun e => (by cases e), fun _ => ⟨p, fun b o q => ?_, (same_upd hD).free np, nDp, upd_same, ?_⟩⟩
      · rw [upd_ne (ne_of_none q hD)]
        exact s2 _ _ (same_upd hD _ _ q)
      · obtain ⟨p0, p1, p2, p3, hp, r⟩ := h2
        exact ⟨p0, p1, p2, p3, by rw [upd_ne nDp.symm]; exact hp, r⟩
    · rintro H' ⟨_, hz⟩
      obtain ⟨p, s1, np, nDp, eD, hp⟩ := hz rfl
      exact k D p H' s1 hD np nDp eD hp
/-! ### what is drawn -/
def spOneOf : Sp := fun vs H Q _ => ∃ (a L : Addr) (n : Nat) (xs : List V), vs = [.ref a, .ref L] ∧ PurseAt H a n ∧ n ≤ 1000000000000 ∧ L ≠ a ∧ H L = some (.lst xs) ∧ 1 ≤ xs.length ∧ xs.length < 1048576 ∧
  ∀ (i : Nat) (x : V) (H' : Hp), xs[i]? = some x → (∀ b, b ≠ a → H' b = H b) → PurseAt H' a (n + 1) → Q x H'
theorem ok_oneOf {f fd_ fm : Addr} {fd fdd fdm : FuncData} (T : Top K mg "_law_one_of" sLOneOf ["purse", "some"] f fd) (TD : Top K mg "_law_draw" sLDraw ["purse", "many"] fd_ fdd)
    (TM : Top K mg "_law_mixed" sLMixed ["seed", "spin", "at"] fm fdm) (B : Blt mg) : FnOk P w K mg base CX0 3 f fd ["purse", "some"] spOneOf := by
  have GD : FnOk P w K mg base CX0 2 fd_ fdd ["purse", "many"] spDraw := ok_draw TD TM B
  refine T.F.ok scLOneOf (fun vs H Q E h => ?_) (fun cdv A outer s H vs Q E hr h => ?_)
  · obtain ⟨_, _, _, _, rfl, _⟩ := h
    rfl
  · obtain ⟨a, L, n, xs, rfl, hp, hn, nLa, hL, h1, h2, k⟩ := h
    refine ⟨_, pss_one (ps_ret (pe_ix ix_list (pv 1) (pe_call GD hr rfl TD.g TD.F.kp TD.b .nil pass0 (pa_cons (pv 0) (pa_cons (pe_callB call_len_seq (by rfl) B.len PySem.boot_len (pa_cons (pv 1) pa_nil)) pa_nil))) (fun _ _ => rfl))), ?_⟩
    refine ⟨_, rfl, _, rfl, _, rfl, L, _, rfl, .inl (SqL.of hL), a, n, _, rfl, hp, hn, by omega, by omega, fun d H' d0 d1 off hp' => ?_⟩
    obtain ⟨j, rfl⟩ := Int.eq_ofNat_of_zero_le d0
    have hj : j < xs.length := by omega
    refine ⟨L, xs, _, xs[j], rfl, rfl, SqL.of (by rw [off L nLa]; exact hL), atI_nat (by simp [hj]), ?_⟩
    exact k j _ H' (by simp [hj]) off hp'
/-- a word: one to eight letters -/
def IsW (z : Str) : Prop := 1 ≤ z.length ∧ z.length ≤ 8 ∧ ∀ c ∈ z.cps.toList, 97 ≤ c ∧ c ≤ 122
def abc : Str := "abcdefghijklmnopqrstuvwxyz"
theorem abc_at : ∀ j : Nat, j < 26 → abc.cps.toList[j]? = some (97 + j) := by decide +kernel
/-- the heap is kept but at a -/
def KeepBut (a : Addr) (H H' : Hp) : Prop := ∀ b o, H b = some o → b ≠ a → H' b = some o
theorem KeepBut.refl (a : Addr) (H : Hp) : KeepBut a H H := fun _ _ e _ => e
theorem KeepBut.trans {a : Addr} {H H1 H2 : Hp} (h : KeepBut a H H1) (h' : KeepBut a H1 H2) : KeepBut a H H2 := fun b o e n => h' b o (h b o e n) n
theorem KeepBut.of_same {a : Addr} {H H' : Hp} (h : Same H H') : KeepBut a H H' := fun b o e _ => h b o e
theorem KeepBut.of_off {a : Addr} {H H' : Hp} (h : ∀ b, b ≠ a → H' b = H b) : KeepBut a H H' := fun b o e n => by rw [h b n]; exact e
theorem KeepBut.free {a b : Addr} {H H' : Hp} (h : KeepBut a H H') (n : H' b = none) (hb : b ≠ a) : H b = none := by
  cases e : H b with
  | none => rfl
  | some o =>
    rw [h b o e hb] at n
    cases n
def spWord : Sp := fun vs H Q _ => ∃ (a : Addr) (n : Nat), vs = [.ref a] ∧ PurseAt H a n ∧ n ≤ 900000000000 ∧ ∀ (z : Str) (H' : Hp), IsW z → KeepBut a H H' → PurseAt H' a (n + 10) → Q (.str z) H'
theorem join_signs : ∀ cs : List Nat, joinL [] (cs.map fun c => [c]) = cs
  | [] => rfl
  | [c] => rfl
  | c :: d :: r => by
    show [c] ++ ([] ++ joinL [] ((d :: r).map fun c => [c])) = c :: d :: r
    rw [join_signs (d :: r)]
    rfl
theorem word_of (cs : List Nat) : (Txt.join ("" : Str) (cs.map fun c => (⟨#[c]⟩ : Str))).cps.toList = cs := by
  rw [TL.join_eq]
  show tl (Str.join "" (cs.map fun c => (⟨#[c]⟩ : Str))) = cs
  rw [tl_join, List.map_map]
  exact join_signs cs
theorem isW_of {cs : List Nat} (h1 : 1 ≤ cs.length) (h2 : cs.length ≤ 8) (h : ∀ c ∈ cs, 97 ≤ c ∧ c ≤ 122) : IsW (Txt.join ("" : Str) (cs.map fun c => (⟨#[c]⟩ : Str))) := by
  have e := word_of cs
  have l : (Txt.join ("" : Str) (cs.map fun c => (⟨#[c]⟩ : Str))).length = cs.length := by
    rw [← congrArg List.length e]
    exact Array.length_toList.symm
  exact ⟨by omega, by omega, by rw [e]; exact h⟩
theorem sum_ones : ∀ cs : List Nat, ((cs.map fun c => (⟨#[c]⟩ : Str)).map (·.length)).sum = cs.length
  | [] => rfl
  | c :: r => by
    show 1 + ((r.map fun c => (⟨#[c]⟩ : Str)).map (·.length)).sum = r.length + 1
    rw [sum_ones r]
    omega
theorem ok_word {f fd_ fm : Addr} {fd fdd fdm : FuncData} (T : Top K mg "_law_word" sLWord ["purse"] f fd) (TD : Top K mg "_law_draw" sLDraw ["purse", "many"] fd_ fdd)
    (TM : Top K mg "_law_mixed" sLMixed ["seed", "spin", "at"] fm fdm) (B : Blt mg) : FnOk P w K mg base CX0 3 f fd ["purse"] spWord := by
  have GD : FnOk P w K mg base CX0 2 fd_ fdd ["purse", "many"] spDraw := ok_draw TD TM B
  refine T.F.ok scLWord (fun vs H Q E h => ?_) (fun cdv A outer s H vs Q E hr h => ?_)
  · obtain ⟨_, _, rfl, _⟩ := h
    rfl
  · obtain ⟨a, n, rfl, hp, hn, k⟩ := h
    refine ⟨_, (pss_cons (ps_set (i := 1) scLWord.nd rfl (Or.inl rfl) (pe_op op_add pe_int (pe_call GD hr rfl TD.g TD.F.kp TD.b .nil pass0 (pa_cons (pv 0) (pa_cons (pe_ifExp (pt_cmpR op_eq (pe_call GD hr rfl TD.g TD.F.kp TD.b .nil pass0 (pa_cons (pv 0) (pa_cons pe_int pa_nil))) pe_int (nomark _)) pe_int pe_int) pa_nil)))))
      (pss_one (ps_ret (pe_join pe_str (pe_lc (own := [("spin", 2)]) (g := gName 2) (tt := tYes) rfl scLWord.nd (pi_range1 (by rfl) B.range (pa_cons (pv 1) pa_nil))
        (blkOk_by (N := ["purse", "size", "spin"]) (sc := defScope sLWord) (by decide +kernel)) (fun _ _ _ _ _ => pg_name (i := 2) scLWord.nd rfl (Or.inl rfl)) (fun _ _ _ _ _ => pts_nil)
        (fun _ _ _ _ _ => pe_ix ix_str pe_str (pe_call GD hr rfl TD.g TD.F.kp TD.b .nil pass0 (pa_cons (pv 0) (pa_cons pe_int pa_nil))) (fun _ _ => rfl))))))), ?_⟩
    refine ⟨_, rfl, _, rfl, a, n, _, rfl, hp, by omega, by decide, by decide, fun d1 H1 c0 c1 off1 hp1 => ⟨rfl, _, rfl, ?_⟩⟩
    refine ite2 (fun _ => ?_) (fun _ => ?_)
    all_goals
      refine ⟨a, n + 1, _, rfl, hp1, by omega, by decide, by decide, fun d2 H2 e0 e1 off2 hp2 => ?_⟩
      have e8 : d2 < 8 := by omega
      have kb : KeepBut a H H2 := (KeepBut.of_off off1).trans (.of_off off2)
      refine ⟨_, _, rfl, rfl, ⟨_, rfl⟩, _, rfl, _, rfl, by omega, by omega, fun D hD => ?_⟩
      have nDa : D ≠ a := by
        obtain ⟨_, _, _, _, e, _⟩ := hp2
        exact (ne_of_none e hD).symm
      refine lc_range (lo := 0) (n := (1 + d2).toNat) (fun i H' => KeepBut a H H' ∧ PurseAt H' a (n + 2 + i) ∧ ∃ cs : List Nat, H' D = some (.lst (cs.map fun c => V.str ⟨#[c]⟩)) ∧ cs.length = i ∧ ∀ c ∈ cs, 97 ≤ c ∧ c ≤ 122)
        ⟨fun b o q hb => ?_, ?_, [], upd_same, rfl, fun c hc => nomatch hc⟩ ?_ ?_
      · rw [upd_ne (ne_of_none (kb b o q hb) hD)]
        exact kb b o q hb
      · obtain ⟨p0, p1, p2, p3, q, r⟩ := hp2
        exact ⟨p0, p1, p2, p3, by rw [upd_ne nDa.symm]; exact q, r⟩
      · rintro i H' hi ⟨kb', hp', cs, eD, el, hc⟩
        have hi8 : i < 8 := by omega
        refine ⟨rfl, _, rfl, a, n + 2 + i, 26, rfl, hp', by omega, by decide, by decide, fun d3 H3 g0 g1 off3 hp3 => ?_⟩
        obtain ⟨j, rfl⟩ := Int.eq_ofNat_of_zero_le g0
        have hj : j < 26 := by omega
        refine ⟨abc, _, _, rfl, rfl, by decide, atI_nat (abc_at j hj), _, (by rw [off3 D nDa]; exact eD), ?_, ?_, ?_, cs ++ [97 + j], ?_, ?_, ?_⟩
        · rw [List.length_map, sizeLine_eq]
          omega
        · intro b o q hb
          have q1 : H3 b = some o := by
            rw [off3 b hb]
            exact kb' b o q hb
          rw [upd_ne ?_]
          · exact q1
          · rintro rfl
            have q2 := kb b o q hb
            rw [hD] at q2
            cases q2
        · obtain ⟨p0, p1, p2, p3, q, r⟩ := hp3
          exact ⟨p0, p1, p2, p3, by rw [upd_ne nDa.symm]; exact q, r⟩
        · rw [upd_same, List.map_append]
          rfl
        · rw [List.length_append, el]
          rfl
        · intro c hc'
          rcases List.mem_append.mp hc' with q | q
          · exact hc c q
          · have q' := List.mem_singleton.mp q
            omega
      · rintro H' ⟨kb', hp', cs, eD, el, hc⟩
        have hl : cs.length = (1 + d2).toNat := el
        refine ⟨_, D, cs.map fun c => (⟨#[c]⟩ : Str), rfl, rfl, .inl (SqL.of (by rw [eD, List.map_map]; rfl)), ?_, ?_⟩
        · rw [sum_ones, List.length_map]
          show cs.length + cs.length * 0 ≤ 16777216
          omega
        · refine k _ H' (isW_of (by omega) (by omega) hc) kb' ?_
          obtain ⟨p0, p1, p2, p3, q, r1, r2, r3, r4, r5, r6⟩ := hp'
          exact ⟨p0, p1, p2, p3, q, r1, r2, r3, r4, by omega, r6⟩
end
end U6

namespace U6
open PySem PySem.Spec PyProof.Rows L2
open PySem.W (Frag)
/-! ### types as data -/
inductive Sg | ov | th | un
  deriving DecidableEq
def Sg.str : Sg → Str
  | .ov => "over"
  | .th => "then"
  | .un => "under"
inductive Ty | w (z : Str) | n (g : Sg) (a b : Ty)
  deriving DecidableEq
inductive TyAt (H : Hp) : V → Ty → Prop
  | w {z : Str} : IsW z → TyAt H (.str z) (.w z)
  | n {p : Addr} {g : Sg} {x y : V} {a b : Ty} : H p = some (.tup [.str g.str, x, y]) → TyAt H x a → TyAt H y b → TyAt H (.ref p) (.n g a b)
/-- what is laid as a tuple stays -/
def TK (H H' : Hp) : Prop := ∀ p xs, H p = some (.tup xs) → H' p = some (.tup xs)
theorem TK.refl (H : Hp) : TK H H := fun _ _ e => e
theorem TK.trans {H H1 H2 : Hp} (h : TK H H1) (h' : TK H1 H2) : TK H H2 := fun p xs e => h' p xs (h p xs e)
theorem TK.of_same {H H' : Hp} (h : Same H H') : TK H H' := fun p xs e => h p _ e
theorem TK.upd_new {H : Hp} {a : Addr} {o : HO} (h : H a = none) : TK H (upd H a o) := TK.of_same (same_upd h)
theorem TK.upd_lst {H : Hp} {a : Addr} {xs ys : List V} (h : H a = some (.lst xs)) : TK H (upd H a (.lst ys)) := fun p zs e => by
  by_cases c : p = a
  · rw [c, h] at e
    cases e
  · rw [upd_ne c]
    exact e
theorem TyAt.mono {H H' : Hp} (k : TK H H') {v : V} {t : Ty} (h : TyAt H v t) : TyAt H' v t := by
  induction h with
  | w h => exact .w h
  | n e _ _ i1 i2 => exact .n (k _ _ e) i1 i2
def Ty.signs : Ty → Nat
  | .w _ => 0
  | .n _ a b => 1 + a.signs + b.signs
def Ty.size : Ty → Nat
  | .w _ => 1
  | .n _ a b => 1 + a.size + b.size
theorem Ty.size_signs (t : Ty) : t.size = 2 * t.signs + 1 := by
  induction t with
  | w _ => rfl
  | n g a b i j => simp only [Ty.size, Ty.signs]; omega
/-- the written names of the modules -/
structure Gbl (K : Frag) (mg : Str → Option Value) : Prop where
  letters : ∃ t, mg "_LETTERS" = some (.str abc t)
  signs : ∃ a, mg "_SIGNS" = some (.ref a) ∧ SqT K (fun _ => none) a [.str "over", .str "then", .str "under"]
theorem sqT_any {K : Frag} {a : Addr} {xs : List V} {H : Hp} (h : SqT K (fun _ => none) a xs) : SqT K H a xs := by
  rcases h with h | h
  · rcases h with h | ⟨o, h⟩
    · cases h
    · cases h
  · exact .inr h
section
variable {P : Program} {w : World} {K : Frag} {mg : Str → Option Value} {base : Heap}
/-! ### words -/
def spIsWord : Sp := fun vs H Q _ => ∃ z, vs = [.str z] ∧ IsW z ∧ ∀ H', Same H H' → Q (.bl true) H'
theorem abc_mem {c : Nat} (h1 : 97 ≤ c) (h2 : c ≤ 122) : c ∈ abc.cps.toList := by
  obtain ⟨j, rfl⟩ : ∃ j, c = 97 + j := ⟨c - 97, by omega⟩
  exact List.mem_of_getElem? (abc_at j (by omega))
theorem ok_isWord {f : Addr} {fd : FuncData} (T : Top K mg "is_word" sIsWord pIsWord f fd) (B : Blt mg) (G : Gbl K mg) : FnOk P w K mg base CX0 1 f fd pIsWord spIsWord := by
  obtain ⟨tl, gl⟩ := G.letters
  refine T.F.ok scIsWord (fun vs H Q E h => ?_) (fun cdv A outer s H vs Q E hr h => ?_)
  · obtain ⟨_, rfl, _⟩ := h
    rfl
  · obtain ⟨z, rfl, ⟨z1, z2, z3⟩, k⟩ := h
    refine ⟨_, (pss_cons (ps_if (PW.pt (pw_or (pt_not (pt_val (pe_callB call_isi (by rfl) B.isi (by decide +kernel) (pa_cons (pv 0) (pa_cons (pe_bltn (v := .ty "str") (by rfl) B.str_ (by decide +kernel) rfl) pa_nil))))) (pw_or1 (pt_not (pt_chain op_le op_le pe_int (pe_callB call_len_str (by rfl) B.len PySem.boot_len (pa_cons (pv 0) pa_nil)) pe_int))))) (pss_one (ps_ret pe_bl)) pss_nil)
      (pss_one (ps_ret (pe_callB (cr_all rfl) (by rfl) B.all (by decide +kernel) (pa_cons (pe_lc (own := [("letter", 1)]) (g := gName 1) (tt := tYes) rfl scIsWord.nd (pi_str (pv 0)) (blkOk_by (N := nIsWord) (sc := defScope sIsWord) (by decide +kernel)) (fun _ _ _ _ _ => pg_name (i := 1) scIsWord.nd rfl (Or.inl rfl)) (fun _ _ _ _ _ => pts_nil) (fun _ _ _ _ _ => (pe_cmpR op_in_sign (pv 1) (pe_glob (v := .str abc) rfl gl ⟨tl, rfl⟩) (by rfl)))) pa_nil))))), ?_⟩
    refine ⟨_, rfl, _, _, _, _, true, rfl, .ty "str", .base (.str z), kit_ty (by decide +kernel), true, rfl, iteF ?_⟩
    refine ⟨_, rfl, _, rfl, by rw [sizeLine_eq]; omega, _, _, rfl, rfl, true, congrArg V.bl (decide_eq_true (by omega)), iteT ⟨_, _, rfl, rfl, true, congrArg V.bl (decide_eq_true (by omega)), iteF ?_⟩⟩
    refine ⟨_, rfl, _, rfl, fun D hD => ?_⟩
    refine lc_it walk_str (fun i H' => H' = upd H D (.lst (List.replicate i (.bl true)))) rfl (fun _ _ _ _ => trivial) ?_ ?_
    · rintro i x H' H2 hi rfl ⟨rfl, c, hc, rfl⟩
      have hm : c ∈ z.cps.toList := Array.mem_toList_iff.mpr (Array.mem_of_getElem? hc)
      refine ⟨rfl, _, rfl, c, abc, rfl, rfl, _, upd_same, ?_, ?_⟩
      · rw [List.length_replicate, sizeLine_eq]
        have : z.cps.size ≤ 8 := z2
        omega
      · rw [upd_upd, decide_eq_true (abc_mem (z3 c hm).1 (z3 c hm).2), ← List.replicate_succ']
    · rintro H' rfl
      refine ⟨_, List.replicate z.cps.size true, rfl, SqL.of (by rw [upd_same, List.map_replicate]), ?_⟩
      have e : (List.replicate z.cps.size true).all id = true := by
        rw [List.all_eq_true]
        intro b hb
        exact (List.mem_replicate.mp hb).2
      rw [e]
      exact k _ (same_upd hD)
/-! ### signs -/
def Ty.node : Ty → Bool
  | .w _ => false
  | .n _ _ _ => true
def spIsSigned : Sp := fun vs H Q _ => ∃ v t, vs = [v] ∧ TyAt H v t ∧ Q (.bl t.node) H
theorem ok_isSigned {f : Addr} {fd : FuncData} (T : Top K mg "_is_signed" sIsSigned pIsSigned f fd) (B : Blt mg) (G : Gbl K mg) : FnOk P w K mg base CX0 1 f fd pIsSigned spIsSigned := by
  obtain ⟨sa, gs, hs⟩ := G.signs
  refine T.F.ok scIsSigned (fun vs H Q E h => ?_) (fun cdv A outer s H vs Q E hr h => ?_)
  · obtain ⟨_, _, rfl, _⟩ := h
    rfl
  · obtain ⟨v, t, rfl, ht, k⟩ := h
    refine ⟨_, pss_one (ps_ret (pe_and (pe_callB call_isi (by rfl) B.isi (by decide +kernel) (pa_cons (pv 0) (pa_cons (pe_bltn (v := .ty "tuple") (by rfl) B.tuple (by decide +kernel) rfl) pa_nil))) (pe_and (pe_cmpR op_eq (pe_callB call_len_seq (by rfl) B.len PySem.boot_len (pa_cons (pv 0) pa_nil)) pe_int (nomark _)) (pe_one (pe_cmpR op_in_seq (pe_ix ix_tup (pv 0) pe_int (fun _ _ => rfl)) (pe_glob (v := .ref sa) rfl gs rfl) (by rfl)))))), ?_⟩
    cases ht with
    | @w z h => exact ⟨_, rfl, _, _, _, _, false, rfl, .ty "tuple", .base (.str z), kit_ty (by decide +kernel), false, rfl, k⟩
    | @n p g x y a b e h1 h2 =>
      refine ⟨_, rfl, _, _, _, _, true, rfl, .ty "tuple", .base (.tup e), kit_ty (by decide +kernel), true, rfl, ?_⟩
      refine ⟨_, rfl, p, _, rfl, .inr (SqT.of e), rfl, true, rfl, ?_⟩
      refine ⟨_, rfl, p, _, _, _, rfl, rfl, SqT.of e, atI_nat (j := 0) rfl, sa, _, rfl, .inr (sqT_any hs), rfl, rfl, ?_⟩
      cases g <;> exact k
end
end U6

namespace U6
open PySem PySem.Spec PyProof.Rows L2
open PySem.W (Frag)
/-- a list of types -/
inductive Tys (H : Hp) : List V → List Ty → Prop
  | nil : Tys H [] []
  | cons {v : V} {t : Ty} {vs : List V} {ts : List Ty} : TyAt H v t → Tys H vs ts → Tys H (v :: vs) (t :: ts)
theorem Tys.mono {H H' : Hp} (k : TK H H') {vs : List V} {ts : List Ty} (h : Tys H vs ts) : Tys H' vs ts := by
  induction h with
  | nil => exact .nil
  | cons h _ ih => exact .cons (h.mono k) ih
theorem Tys.length {H : Hp} {vs : List V} {ts : List Ty} (h : Tys H vs ts) : vs.length = ts.length := by
  induction h with
  | nil => rfl
  | cons _ _ ih => simp [ih]
theorem Tys.append {H : Hp} {vs us : List V} {ts rs : List Ty} (h : Tys H vs ts) (h' : Tys H us rs) : Tys H (vs ++ us) (ts ++ rs) := by
  induction h with
  | nil => exact h'
  | cons h _ ih => exact .cons h ih
theorem Tys.at_ {H : Hp} {vs : List V} {ts : List Ty} (h : Tys H vs ts) : ∀ {i : Nat} {v : V}, vs[i]? = some v → ∃ t, ts[i]? = some t ∧ TyAt H v t := by
  induction h with
  | nil => intro i v e; simp at e
  | cons h _ ih =>
    intro i v e
    cases i with
    | zero =>
      simp at e
      subst e
      exact ⟨_, rfl, h⟩
    | succ i => exact ih (by simpa using e)
def sizes : List Ty → Nat
  | [] => 0
  | t :: r => t.size + sizes r
theorem Ty.size_pos (t : Ty) : 1 ≤ t.size := by
  cases t <;> simp [Ty.size]; omega
theorem sizes_len : ∀ ts : List Ty, ts.length ≤ sizes ts
  | [] => Nat.le_refl _
  | t :: r => by
    have := sizes_len r
    have := t.size_pos
    simp only [List.length_cons, sizes]
    omega
theorem same_over {H0 H : Hp} {W : Addr} {o : HO} (s : Same H0 H) (n : H0 W = none) : Same H0 (upd H W o) := fun b u e => by
  rw [upd_ne (ne_of_none e n)]
  exact s b u e
/-- the parts of a type, as nodes go through them -/
def Ty.parts : Ty → List Ty
  | .w _ => []
  | .n _ a b => [a, b]
theorem cut_not : ¬ (HT.sIx 3 0 (some 1) = 0 ∧ HT.sIx 3 3 none = 3) := by decide +kernel
section
variable {P : Program} {w : World} {K : Frag} {mg : Str → Option Value} {base : Heap}
def spIsKind : Sp := fun vs H Q _ => ∃ v t, vs = [v] ∧ TyAt H v t ∧ t.size ≤ 1000000 ∧ ∀ H', Same H H' → Q (.bl true) H'
theorem ok_isKind {f fs fw : Addr} {fd fds fdw : FuncData} (T : Top K mg "is_kind" sIsKind pIsKind f fd) (TS : Top K mg "_is_signed" sIsSigned pIsSigned fs fds) (TW : Top K mg "is_word" sIsWord pIsWord fw fdw) (B : Blt mg) (G : Gbl K mg) :
    FnOk P w K mg base CX0 2 f fd pIsKind spIsKind := by
  have GS : FnOk P w K mg base CX0 1 fs fds pIsSigned spIsSigned := ok_isSigned TS B G
  have GW : FnOk P w K mg base CX0 1 fw fdw pIsWord spIsWord := ok_isWord TW B G
  refine T.F.ok scIsKind (fun vs H Q E h => ?_) (fun cdv A outer s H vs Q E hr h => ?_)
  · obtain ⟨_, _, rfl, _⟩ := h
    rfl
  · obtain ⟨v, t, rfl, ht, hz, k⟩ := h
    refine ⟨_, (pss_cons (ps_set (i := 1) scIsKind.nd rfl (Or.inl rfl) (pe_lst (pa_cons (pv 0) pa_nil)))
      (pss_cons (ps_while PassesOwn.never (pt_truth (pv 1) (by intro _; rfl))
        (pss_cons (ps_set (i := 2) scIsKind.nd rfl (Or.inl rfl) (pe_bm0 PySem.F.plainAttrs_list PySem.F.slot_list_pop PySem.F.type_list_pop mt_pop (pv 1)))
      (pss_one (ps_if (pt_val (pe_call GS hr rfl TS.g TS.F.kp TS.b .nil pass0 (pa_cons (pv 2) pa_nil))) (pss_one (ps_expr (pe_bm PySem.F.plainAttrs_list PySem.F.slot_list_extend PySem.F.type_list_extend KT.mt_extT (pv 1) (pa_cons (pe_slice sl_tup (pv 2) (po_some pe_int) po_none) pa_nil))))
            (pss_one (ps_if (pt_not (pt_val (pe_call GW hr rfl TW.g TW.F.kp TW.b .nil pass0 (pa_cons (pv 2) pa_nil)))) (pss_one (ps_ret pe_bl)) pss_nil))))))
      (pss_one (ps_ret pe_bl)))), ?_⟩
    refine ⟨v, rfl, by show 1 ≤ sizeLine; rw [sizeLine_eq]; omega, fun W hW => ?_⟩
    refine ⟨fun m σ H' => ∃ (vs : List V) (ts : List Ty) (v2 : Option V), σ = [some v, some (.ref W), v2] ∧ H' W = some (.lst vs.reverse) ∧ Tys H' vs ts ∧ sizes ts = m ∧ m ≤ 1000000 ∧ Same H H', ⟨t.size, [v], [t], none, rfl, upd_same, .cons (ht.mono (TK.upd_new hW)) .nil, rfl, hz, same_upd hW⟩, ?_⟩
    rintro m σ H1 ⟨vs, ts, v2, rfl, hL, hT, rfl, hm, hs⟩
    refine ⟨_, rfl, _, .inl ⟨_, SqL.of hL, rfl⟩, ?_⟩
    cases hT with
    | nil => exact iteF (k H1 hs)
    | @cons y u vs ts h1 h2 =>
      have el : (y :: vs).reverse = vs.reverse ++ [y] := List.reverse_cons
      have c : (!(y :: vs).reverse.isEmpty) = true := by rw [el]; simp
      rw [c]
      refine iteT ⟨fun σ' H' => ∃ m' < sizes (u :: ts), ∃ (vs : List V) (ts : List Ty) (v2 : Option V), σ' = [some v, some (.ref W), v2] ∧ H' W = some (.lst vs.reverse) ∧ Tys H' vs ts ∧ sizes ts = m' ∧ m' ≤ 1000000 ∧ Same H H', fun σ' H' q => q, ?_⟩
      refine ⟨_, rfl, .inl ⟨rfl, _, SqL.of hL⟩, W, _, y, rfl, rfl, hL, by rw [el]; simp, ?_⟩
      have ed : (y :: vs).reverse.dropLast = vs.reverse := by rw [el]; simp
      rw [ed]
      have tk : TK H1 (upd H1 W (.lst vs.reverse)) := TK.upd_lst hL
      have hs' : Same H (upd H1 W (.lst vs.reverse)) := same_over hs hW
      refine ⟨y, rfl, y, u, rfl, h1.mono tk, _, rfl, ?_⟩
      cases h1 with
      | @w z hz =>
        refine iteF ⟨_, rfl, z, rfl, hz, fun H2 s2 => ⟨_, rfl, iteF ⟨sizes ts, ?_, vs, ts, _, rfl, s2 _ _ upd_same, h2.mono (tk.trans (TK.of_same s2)), rfl, ?_, hs'.trans s2⟩⟩⟩
        · show sizes ts < 1 + sizes ts
          omega
        · have : 1 + sizes ts ≤ 1000000 := hm
          omega
      | @n p g x1 x2 a b e k1 k2 =>
        refine iteT ⟨_, rfl, .inl ⟨rfl, _, SqL.of upd_same⟩, _, rfl, _, rfl, p, _, rfl, SqT.of (tk _ _ e), cut_not, fun p' hp => ?_⟩
        have np : W ≠ p' := ne_of_none upd_same hp
        refine ⟨W, p', _, _, rfl, rfl, by rw [upd_ne np, upd_same], SqT.of upd_same, ?_, ?_⟩
        · have l1 := h2.length
          have l2 := sizes_len ts
          show vs.reverse.length + 2 ≤ sizeLine
          rw [List.length_reverse, sizeLine_eq]
          have : (1 + a.size + b.size) + sizes ts ≤ 1000000 := hm
          omega
        · have hp1 : H1 p' = none := by
            rw [upd_ne np.symm] at hp
            exact hp
          have tk2 : TK H1 (upd (upd (upd H1 W (.lst vs.reverse)) p' (.tup [x1, x2])) W (.lst (vs.reverse ++ [x1, x2]))) := (tk.trans (TK.upd_new hp)).trans (TK.upd_lst (by rw [upd_ne np, upd_same]))
          have tk3 : TK H1 (upd (upd H1 W (.lst vs.reverse)) p' (.tup [x1, x2])) := tk.trans (TK.upd_new hp)
          refine ⟨b.size + (a.size + sizes ts), ?_, x2 :: x1 :: vs, b :: a :: ts, _, rfl, ?_, .cons (k2.mono tk2) (.cons (k1.mono tk2) (h2.mono tk2)), rfl, ?_, ?_⟩
          · show _ < (1 + a.size + b.size) + sizes ts
            omega
          · rw [upd_same]
            simp
            rfl
          · have : (1 + a.size + b.size) + sizes ts ≤ 1000000 := hm
            omega
          · exact same_over (hs'.trans (same_upd hp)) hW
end
end U6

/-! Functions as values: what may be called, and what must stand for it. -/
namespace KT
open PySem PySem.Spec PyProof.Rows L2 NdefX LamX
/-- objects that nobody tracks (captured cells) -/
abbrev Pins := List (Addr × Obj)
/-- function and code objects that are tracked -/
abbrev Exts := List (Addr × HO)
def Dep (D : Pins) (outer : List Env) (s : Shared) (H : Hp) : Prop := ∀ p ∈ D, s.heap.get? p.1 = some p.2 ∧ H p.1 = none ∧ p.1 ∉ frs outer
def ExOk (EX : Exts) (H : Hp) : Prop := ∀ p ∈ EX, H p.1 = some p.2
theorem Dep.nil {outer : List Env} {s : Shared} {H : Hp} : Dep [] outer s H := fun p hp => absurd hp (by simp)
theorem Dep.app {D D' : Pins} {outer : List Env} {s : Shared} {H : Hp} (h : Dep D outer s H) (h' : Dep D' outer s H) : Dep (D ++ D') outer s H := fun p hp => (List.mem_append.mp hp).elim (h p) (h' p)
theorem Dep.left {D D' : Pins} {outer : List Env} {s : Shared} {H : Hp} (h : Dep (D ++ D') outer s H) : Dep D outer s H := fun p hp => h p (List.mem_append.mpr (.inl hp))
theorem Dep.right {D D' : Pins} {outer : List Env} {s : Shared} {H : Hp} (h : Dep (D ++ D') outer s H) : Dep D' outer s H := fun p hp => h p (List.mem_append.mpr (.inr hp))
theorem Dep.go {X : Cx} {pins : List (Addr × Obj)} {σ : L2.St} {H : Hp} {s : Shared} {D : Pins} (hx : X.ex = []) (d : Dep D X.outer X.s_0 X.H_0) (I : Inv X pins σ H s) : Dep D X.stack s H := fun p hp => by
  obtain ⟨h1, h2, h3⟩ := d p hp
  have ne : p.1 ∉ X.ex := by rw [hx]; simp
  refine ⟨I.base.keep _ _ h1 h2 h3 ne, I.base.free _ _ h1 h2 ne, fun z => ?_⟩
  rcases List.mem_cons.mp (I.stkSub _ z) with e | e
  · have a := I.ok.above
    rw [← e] at a
    exact absurd (Heap.lt_size h1) (Nat.not_lt.mpr a)
  · exact h3 e
/-- f may be called by whoever keeps D and EX -/
structure Callee (P : Program) (w : World) (K : PySem.W.Frag) (mg : Str → Option Value) (base : Heap) (k : Nat) (f : Addr) (sp : Sp) (D : Pins) (EX : Exts) : Prop where
  run : ∀ (A : Around) (outer : List Env) (s : Shared) (H : Hp) (us : List Value) (vs : List V) (Q : VK), Room k A → Env0 P w K mg base A outer s H → Dep D outer s H → ExOk EX H → Vals vs us → sp vs H Q L2.E0 →
    codeAny (model P w) A (.call (.ref f) ⟨us, []⟩) (CR L2.CX0 outer P w H s Q L2.E0) s
  at_ : ∀ (h : Heap) (H : Hp), K.In h → HOk P w H h → ExOk EX H → PySem.W.FnAt f h
theorem Callee.mono {P : Program} {w : World} {K : PySem.W.Frag} {mg : Str → Option Value} {base : Heap} {k j : Nat} {f : Addr} {sp : Sp} {D D' : Pins} {EX EX' : Exts} (C : Callee P w K mg base k f sp D EX) (hk : k ≤ j) (hD : ∀ p ∈ D, p ∈ D') (hE : ∀ p ∈ EX, p ∈ EX') : Callee P w K mg base j f sp D' EX' :=
  ⟨fun A outer s H us vs Q hr e0 d x r q => C.run A outer s H us vs Q (hr.mono hk) e0 (fun p hp => d p (hD p hp)) (fun p hp => x p (hE p hp)) r q, fun h H a b c => C.at_ h H a b fun p hp => c p (hE p hp)⟩
theorem Callee.imp {P : Program} {w : World} {K : PySem.W.Frag} {mg : Str → Option Value} {base : Heap} {k : Nat} {f : Addr} {sp sp' : Sp} {D : Pins} {EX : Exts} (C : Callee P w K mg base k f sp D EX) (h : ∀ vs H Q, sp' vs H Q L2.E0 → sp vs H Q L2.E0) : Callee P w K mg base k f sp' D EX :=
  ⟨fun A outer s H us vs Q hr e0 d x r q => C.run A outer s H us vs Q hr e0 d x r (h _ _ _ q), C.at_⟩
/-- a def of the top -/
theorem callee_top {P : Program} {w : World} {K : PySem.W.Frag} {mg : Str → Option Value} {base : Heap} {k : Nat} {f : Addr} {fd : FuncData} {x q : Str} {st : Stmt} {ps : List Str} {sp : Sp} (F : FnOk P w K mg base L2.CX0 k f fd ps sp) (T : Fun K x q st f fd) (b : L2.Binds K fd ps []) : Callee P w K mg base k f sp [] [] where
  run := fun A outer s H us vs Q hr e0 _ _ r h => by
    have KX : K.In s.heap := e0.mod.kin.keeps fun b o e => (e0.bs b o e).1
    have hl : (us ++ []).length = ps.length := by
      rw [List.append_nil, ← r.length]
      exact F.len _ _ _ _ h
    have hb := b s us KX hl
    rw [List.append_nil] at hb
    exact F.run A outer s H ⟨us, []⟩ us vs Q L2.E0 hr e0 hb r h
  at_ := fun h H KX _ _ => by
    obtain ⟨oc, od, kV, doc, pm, an, cdv, ct, osl, rfl, lk, _⟩ := T.ex
    exact ⟨_, _, _, _, KX _ _ lk⟩
section
variable {X : Cx} {k i : Nat} {f : Addr} {sp : Sp} {D : Pins} {EX : Exts} {x : Str} {p pos : Pos} {e : Expr} {es : List Expr} {t : TA}
theorem run_callee {pins : List (Addr × Obj)} {σ : L2.St} {H : Hp} {s : Shared} {Q : VK} {us : List Value} {vs : List V} (C : Callee X.prog X.w X.K X.mg X.base k f sp D EX) (hr : Room k X.A) (d : Dep D X.stack s H) (x : ExOk EX H) (I : Inv X pins σ H s) (r : Vals vs us) (h : sp vs H Q L2.E0) :
    wpAny (model X.prog X.w) X.A (call (.ref f) us) (EP X pins σ Q) X.xe s := by
  refine wpAny_call (codeAny_mono (C.run X.A X.stack s H us vs Q hr I.env0 d x r h) fun q s' hq => ?_)
  match q, hq with
  | .error _, hq => exact False.elim hq
  | .ok (.ret _), hq => exact I.after hq
  | .ok .next, hq => exact False.elim hq
  | .ok .brk, hq => exact False.elim hq
  | .ok .cont, hq => exact False.elim hq
def tCallee (i : Nat) (f : Addr) (sp : Sp) (EX : Exts) (t : TA) : TE := fun σ H Q => σ[i]? = some (some (.ref f)) ∧ ExOk EX H ∧ t σ H fun vs H1 => ExOk EX H1 ∧ sp vs H1 Q L2.E0
/-- x(e, ..), x a name that holds f -/
theorem pe_callee (C : Callee X.prog X.w X.K X.mg X.base k f sp D EX) (hr : Room k X.A) (hx : X.ex = []) (d : Dep D X.outer X.s_0 X.H_0) (hN : X.N[i]? = some x) (hv : Vis X.env.scope x) (ha : PA X (e :: es) t)
    (hd : (x == ("__debug__" : Str)) = false := by decide) (hcd : (x == ("__classdict__" : Str)) = false := by decide)
    (he : starEach (e :: es) X.env = (false, eval e X.env) :: starEach es X.env := by rfl) (hpl : (backTo pos (starEach es X.env)).any (·.1) = false := by rfl) :
    PE X (.Call (.Name x p) (e :: es) [] pos) (tCallee i f sp EX t) := by
  refine ⟨fun pins s σ H Q I h => ?_⟩
  obtain ⟨hs, hE, ht⟩ := h
  refine wpAny_Call_Name_kw (thn ((pe_var (pos := p) hN hv hd hcd).run pins s σ H (fun v H1 => v = .ref f ∧ H1 = H) I ⟨.ref f, hs, rfl, rfl⟩) fun u s1 ⟨v, H1, I1, r1, q1⟩ => ?_)
  obtain ⟨ev, eH⟩ := q1
  subst ev
  rw [eH] at I1
  obtain rfl : u = Value.ref f := r1
  refine PySem.W.callWith_F (first := []) (C.at_ _ _ I1.kIn I1.hok hE) (thn (ha.run pos pins s1 σ H _ I1 ht) fun us s2 ⟨vs, H2, I2, r, h1, q⟩ => ⟨C.at_ _ _ I2.kIn I2.hok h1, ?_⟩) he hpl
  show wpAny _ _ (call (.ref f) us) _ _ _
  exact run_callee C hr (d.go hx I2) h1 I2 r q
end
/-! ### what is captured -/
/-- the cells of cl stand in D, with the values ws -/
structure CellD (D : Pins) (cl : List (Str × Addr)) (fr : List Str) (ws : List (Option V)) : Prop where
  len : ws.length = fr.length
  all : ∀ y c, cl.lookup y = some c → ∃ o v, (c, o) ∈ D ∧ o.data = .cell v
  inj : ∀ x y c, cl.lookup x = some c → cl.lookup y = some c → x = y
  has : ∀ (i : Nat) (y : Str), fr[i]? = some y → ∃ c, cl.lookup y = some c ∧ ∀ v, ws[i]? = some (some v) → ∃ u o, L2.RelV v u ∧ (c, o) ∈ D ∧ o.data = .cell (some u)
theorem CellD.at_ {D : Pins} {cl : List (Str × Addr)} {fr : List Str} {ws : List (Option V)} (C : CellD D cl fr ws) {outer : List Env} {s : Shared} {H : Hp} (d : Dep D outer s H) : CellsAt cl fr ws s.heap H where
  len := C.len
  all := fun y c e => by
    obtain ⟨o, v, hm, hd⟩ := C.all y c e
    obtain ⟨h1, h2, _⟩ := d _ hm
    exact ⟨h2, v, o, h1, hd⟩
  inj := C.inj
  has := fun i y e => by
    obtain ⟨c, hc, hv⟩ := C.has i y e
    refine ⟨c, hc, fun v ev => ?_⟩
    obtain ⟨u, o, r, hm, hd⟩ := hv v ev
    exact ⟨u, r, o, (d _ hm).1, hd⟩
theorem CellD.mono {D D' : Pins} {cl : List (Str × Addr)} {fr : List Str} {ws : List (Option V)} (C : CellD D cl fr ws) (h : ∀ p ∈ D, p ∈ D') : CellD D' cl fr ws :=
  ⟨C.len, fun y c e => by
    obtain ⟨o, v, hm, hd⟩ := C.all y c e
    exact ⟨o, v, h _ hm, hd⟩, C.inj, fun i y e => by
    obtain ⟨c, hc, hv⟩ := C.has i y e
    refine ⟨c, hc, fun v ev => ?_⟩
    obtain ⟨u, o, r, hm, hd⟩ := hv v ev
    exact ⟨u, o, r, h _ hm, hd⟩⟩
/-- the running def's own cells, as they stand -/
theorem own_cells {X : Cx} {pins : List (Addr × Obj)} {σ : L2.St} {H : Hp} {s : Shared} {cl : List (Str × Addr)} {fr : List Str} {js : List Nat} (I : Inv X pins σ H s) (hx : X.ex = []) (hfn : ∀ x, X.fn x = true) (c : Caps X cl fr js) :
    ∃ D, Dep D X.stack s H ∧ CellD D cl fr (js.map (slotAt σ)) := by
  have C := cells_of I c
  have mem : ∀ {y : Str} {a : Addr} {o : Obj}, cl.lookup y = some a → s.heap.get? a = some o → (a, o) ∈ cl.filterMap (fun p => (cl.lookup p.1).bind fun a => (s.heap.get? a).map fun o => (a, o)) := fun {y a o} e ho => by
    refine List.mem_filterMap.mpr ⟨(y, a), PySem.mem_of_lookup e, ?_⟩
    show (cl.lookup y).bind _ = _
    rw [e]
    show (s.heap.get? a).map _ = _
    rw [ho]
    rfl
  refine ⟨cl.filterMap fun p => (cl.lookup p.1).bind fun a => (s.heap.get? a).map fun o => (a, o), fun p hp => ?_, C.len, fun y a e => ?_, C.inj, fun i y e => ?_⟩
  · obtain ⟨⟨y, a0⟩, hm, e⟩ := List.mem_filterMap.mp hp
    obtain ⟨a, ha, e⟩ := Option.bind_eq_some_iff.mp e
    obtain ⟨o, ho, e⟩ := Option.map_eq_some_iff.mp e
    subst e
    have ha' : cl.lookup y = some a := ha
    have hX := c.sub y a ha'
    refine ⟨ho, (C.all y a ha').1, fun z => ?_⟩
    rcases List.mem_cons.mp (I.stkSub _ z) with e | e
    · exact I.cne y a hX e
    · obtain ⟨_, o', ho', _⟩ := I.ok.funs.mem e
      exact absurd (Heap.lt_size ho') (Nat.not_lt.mpr (I.ok.cab y a (hfn y) hX))
  · obtain ⟨_, v, o, ho, hd⟩ := C.all y a e
    exact ⟨o, v, mem e ho, hd⟩
  · obtain ⟨a, ha, hv⟩ := C.has i y e
    refine ⟨a, ha, fun v ev => ?_⟩
    obtain ⟨u, r, o, ho, hd⟩ := hv v ev
    exact ⟨u, o, r, mem ha ho, hd⟩
/-! ### functions made within defs -/
section
variable {P : Program} {w : World} {K : PySem.W.Frag} {mg : Str → Option Value} {base : Heap} {N ps fr : List Str} {ws : List (Option V)} {F : NF} {f : Addr} {k : Nat} {sp : Sp} {D : Pins} {EX : Exts}
/-- a def in a def -/
theorem callee_def (S : NScope N ps fr F.scope) (hb : ∀ (doc pm ctv : Value) (us : List Value), us.length = ps.length → bindArgs (F.fd doc pm ctv) ⟨us, []⟩ = pure (ps.zip us)) (len : ∀ vs H Q, sp vs H Q L2.E0 → vs.length = ps.length)
    (hf : (f, FnO f F) ∈ EX) (hc : (F.c, CodeO F.c F.qual) ∈ EX) (C : CellD D F.cl fr ws)
    (hbody : ∀ (A : Around) (outer : List Env) (s : Shared) (H : Hp) (vs : List V) (Q : VK), Room k (A.deeper (envF F f s.heap.objs.size)) → Dep D outer s H → ExOk EX H → sp vs H Q L2.E0 →
      ∃ t, PSs (ncx L2.CX0 P w K mg base N F f A outer s H L2.E0) F.body t ∧ t { nx := fun _ H' => Q .non H', rt := Q } (startF N vs ws) H) :
    Callee P w K mg base (k + 1) f sp D EX where
  at_ := fun h H _ hok x => by
    obtain ⟨od, sl, doc, pm, ctv, ho⟩ := fnO_at hok (x _ hf)
    exact ⟨_, od, _, sl, ho⟩
  run := fun A outer s H us vs Q hr e0 d x r hsp => by
    have hl := len _ _ _ hsp
    have lim : s.heap.NoLimit := e0.mod.nolimit.keeps fun b o e => (e0.bs b o e).1
    obtain ⟨od, sl, doc, pm, ctv, ho⟩ := fnO_at e0.hok (x _ hf)
    refine codeAny_call_function hr.depth ho rfl S.co S.gen rfl (codeO_at e0.hok (x _ hc)) ?_
    rw [hb doc pm ctv us (by rw [← r.length]; exact hl)]
    refine wpAny_pure (wpAny_newFunctionEnv S.nocell (fun ⟨n, _⟩ hy => S.par n (List.of_mem_zip hy).1) (fun h₁ hns hsb => ⟨lim.fresh _ hsb, ?_⟩) S.kind)
    show codeAny _ _ (.func F.body (envF F f s.heap.objs.size)) _ _
    refine codeAny_func ?_
    have kp : ∀ b o, s.heap.get? b = some o → h₁.get? b = some o := fun b o e => hsb.extBut b o (Nat.ne_of_lt (Heap.lt_size e)) (Heap.get?_push_of_some _ e)
    obtain ⟨t, ht, hq⟩ := hbody A outer s H vs Q (hr.deeper _) d x hsp
    have I : Inv (ncx L2.CX0 P w K mg base N F f A outer s H L2.E0) [] (startF N vs ws) H { s with heap := h₁, toks := s.toks + (ps.zip us).length } := inv_startN S hr.hd e0 hl r (C.at_ d) hns kp
    refine wpAny_mono (ht.run [] _ (startF N vs ws) H _ I hq) (fun fl s' hs => ?_) fun e s' hs => hs
    have fin : ∀ {σ' : L2.St} {H' : Hp} {v : V} {u : Value}, Inv (ncx L2.CX0 P w K mg base N F f A outer s H L2.E0) [] σ' H' s' → L2.RelV v u → Q v H' → CE outer P w H s Q u s' :=
      fun {σ' H' v u} J rv q => ⟨v, H', J.os, J.bare, J.base, J.hok, rv, q⟩
    match fl, hs with
    | .ret u, ⟨v, σ', H', J, rv, q⟩ => exact fin J rv q
    | .next, ⟨σ', H', J, q⟩ => exact fin (v := V.non) (u := Value.none) J rfl q
    | .brk, ⟨_, _, _, q⟩ => exact False.elim q
    | .cont, ⟨_, _, _, q⟩ => exact False.elim q
/-- the object at f is the lambda of these words -/
def LamO (f : Addr) (F : NF) (body : Expr) : HO := .ext fun h => ∃ (pm ctv : Value), h.get? f = some (PySem.W.kla_obj F.name F.qual F.params body F.scope F.cl pm F.c ctv)
theorem lamO_at {H : Hp} {h : Heap} {body : Expr} (hok : HOk P w H h) (e : H f = some (LamO f F body)) : ∃ (pm ctv : Value), h.get? f = some (PySem.W.kla_obj F.name F.qual F.params body F.scope F.cl pm F.c ctv) := by
  obtain ⟨z, _, _⟩ := hok f _ e
  exact z
theorem callee_lam {body : Expr} (S : NScope N ps fr F.scope) (hb : ∀ (pm ctv : Value) (us : List Value), us.length = ps.length → bindArgs (PySem.W.kla_fn F.name F.qual F.params body F.scope F.cl pm (.ref F.c) ctv) ⟨us, []⟩ = pure (ps.zip us)) (len : ∀ vs H Q, sp vs H Q L2.E0 → vs.length = ps.length)
    (hf : (f, LamO f F body) ∈ EX) (hc : (F.c, CodeO F.c F.qual) ∈ EX) (C : CellD D F.cl fr ws)
    (hbody : ∀ (A : Around) (outer : List Env) (s : Shared) (H : Hp) (vs : List V) (Q : VK), Room k (A.deeper (envF F f s.heap.objs.size)) → Dep D outer s H → ExOk EX H → sp vs H Q L2.E0 →
      ∃ t, PE (ncx L2.CX0 P w K mg base N F f A outer s H L2.E0) body t ∧ t (startF N vs ws) H Q) :
    Callee P w K mg base (k + 1) f sp D EX where
  at_ := fun h H _ hok x => by
    obtain ⟨pm, ctv, ho⟩ := lamO_at hok (x _ hf)
    exact ⟨_, _, _, _, ho⟩
  run := fun A outer s H us vs Q hr e0 d x r hsp => by
    have hl := len _ _ _ hsp
    have lim : s.heap.NoLimit := e0.mod.nolimit.keeps fun b o e => (e0.bs b o e).1
    obtain ⟨pm, ctv, ho⟩ := lamO_at e0.hok (x _ hf)
    refine PySem.W.kla_callFunE hr.depth ho rfl S.co S.gen rfl (codeO_at e0.hok (x _ hc)) ?_
    rw [hb pm ctv us (by rw [← r.length]; exact hl)]
    refine wpAny_pure (wpAny_newFunctionEnv S.nocell (fun ⟨n, _⟩ hy => S.par n (List.of_mem_zip hy).1) (fun h₁ hns hsb => ⟨lim.fresh _ hsb, ?_⟩) S.kind)
    show codeAny _ _ (.expr body (envF F f s.heap.objs.size)) _ _
    have kp : ∀ b o, s.heap.get? b = some o → h₁.get? b = some o := fun b o e => hsb.extBut b o (Nat.ne_of_lt (Heap.lt_size e)) (Heap.get?_push_of_some _ e)
    obtain ⟨t, ht, hq⟩ := hbody A outer s H vs Q (hr.deeper _) d x hsp
    have I : Inv (ncx L2.CX0 P w K mg base N F f A outer s H L2.E0) [] (startF N vs ws) H { s with heap := h₁, toks := s.toks + (ps.zip us).length } := inv_startN S hr.hd e0 hl r (C.at_ d) hns kp
    refine PySem.W.kla_codeExpr (wpAny_mono (ht.run [] _ (startF N vs ws) H Q I hq) (fun v s' hq => ?_) fun e s' hq => hq)
    obtain ⟨w', H', J, rv, q⟩ := hq
    exact ⟨w', H', J.os, J.bare, J.base, J.hok, rv, q⟩
end
end KT

/-! A lambda as a value; defs whose promise stands on captured cells. -/
namespace KT
open PySem PySem.Spec PyProof.Rows L2 NdefX LamX
section
variable {X : Cx} {pins : List (Addr × Obj)} {σ : L2.St} {H : Hp} {s : Shared}
theorem inv_lam {F : NF} {body : Expr} {o : Obj} {t' : Nat} {pm ctv : Value} (I : Inv X pins σ H s) (ho : o = PySem.W.kla_obj F.name F.qual F.params body F.scope F.cl pm F.c ctv) :
    Inv X pins σ (upd H s.heap.objs.size (LamO s.heap.objs.size F body)) { s with heap := s.heap.push o, toks := t' } := by
  subst ho
  refine I.laid (a := s.heap.objs.size) (fun b u e => Heap.get?_push_of_some _ e) (Nat.le_refl _) ?_
  have e : (s.heap.push (PySem.W.kla_obj F.name F.qual F.params body F.scope F.cl pm F.c ctv)).get? s.heap.objs.size = some (PySem.W.kla_obj F.name F.qual F.params body F.scope F.cl pm F.c ctv) := Heap.get?_push_size _ rfl
  exact ⟨⟨pm, ctv, e⟩, ⟨_, e⟩, fun h1 h2 ⟨p, t, z⟩ st => ⟨p, t, st _ z⟩⟩
abbrev lamF (X : Cx) (params : Arguments) (scope : Scope) (c' : Addr) : NF := ⟨"<lambda>", X.env.qual ++ "<lambda>", params, [], scope, cloFrom X.env.cells scope.names [], c'⟩
theorem lam_makeT {T : List (Addr × Str)} {c P : Addr} {params : Arguments} {body : Expr} {scope : Scope} {pos : Pos} {E : Value → Shared → Prop} {Q : Value → Shared → Prop} (I : Inv X pins σ H s) (TB : TabB X.base X.mg c P) (hcode : X.env.code = .ref c)
    (hm : (P, X.env.qual ++ "<lambda>") ∈ T) (hu : ∀ p ∈ T, p.1 = P → p.2 = X.env.qual ++ "<lambda>") (hT : Tabs T H) (hdef : defaultsOf params X.env = ([], [])) (hfree : ∀ y ∈ scope.names, y.2 = .free → ∃ c, X.env.cells.lookup y.1 = some c)
    (h : ∀ (f c' : Addr) (H1 : Hp) (s' : Shared), Inv X pins σ H1 s' → ExtN H H1 → (∀ b, H1 b = none → H b = none) → Tabs T H1 → H f = none → H1 f = some (LamO f (lamF X params scope c') body) → H1 c' = some (CodeO c' (X.env.qual ++ "<lambda>")) → Q (.ref f) s') :
    wpAny (model X.prog X.w) X.A (eval (.Lambda params body scope pos) X.env) Q E s := by
  obtain ⟨ps, hP, ht, ha⟩ := hT _ hm
  refine PySem.W.kla_eval hdef ?_
  have bP : s.heap.BuiltinsAt X.mg P := TB.bm.keeps I.bk
  have hP' : s.heap.get? P = some { cls := .none, data := .fields ps } := I.hok P _ hP
  cases hc : codeAmong pos ps.toList with
  | none =>
    refine PySem.W.kla_makeFunction (mg := X.mg) (c := c) (P := P) (ps := ps) (closure_ok hfree) I.ok.glob (I.mod.glob.keeps I.bk) hcode (TB.code.keeps I.bk) hP' ht hc TB.gP bP fun c' ctv h' tk hx hge hlt hrec htb => ?_
    obtain ⟨c2, oc, vs, t, e2, hoc, hd, hv⟩ := hrec
    cases e2
    have nC : H c' = none := I.hok.fresh hge
    have I1 := inv_table (t' := tk) (more := #[rawInt pos.line, rawInt pos.col, .ref c']) (h' := h') I hP (fun b o hb e => hx b o hb e) htb hge ⟨oc, vs, t, hoc, hd, hv⟩
    have hE : ExtN H (upd (upd H P (.tbl (ps ++ #[rawInt pos.line, rawInt pos.col, .ref c']))) c' (CodeO c' (X.env.qual ++ "<lambda>"))) := fun b o e n => by
      rw [upd_ne (ne_of_none e nC), upd_ne (fun z => n ps (Option.some.inj (e.symm.trans (by rw [z]; exact hP))))]
      exact e
    have eL : (ps ++ #[rawInt pos.line, rawInt pos.col, .ref c']).toList = ps.toList ++ [rawInt pos.line, rawInt pos.col, .ref c'] := by simp
    have T1 : Tabs T (upd (upd H P (.tbl (ps ++ #[rawInt pos.line, rawInt pos.col, .ref c']))) c' (CodeO c' (X.env.qual ++ "<lambda>"))) := fun p hp => by
      by_cases hb : p.1 = P
      · rw [hu p hp hb, hb]
        refine ⟨_, by rw [upd_ne (ne_of_none hP nC), upd_same], by rw [eL]; exact PySem.TriplesOk_snoc _ _ _ _ ht, fun p' cv hcv => ?_⟩
        rw [eL] at hcv
        rcases among_app _ ht hcv with z | z
        · obtain ⟨c0, e1, e2⟩ := ha p' cv z
          exact ⟨c0, e1, hE _ _ e2 codeO_ne⟩
        · exact ⟨c', z, upd_same⟩
      · obtain ⟨ps', a1, a2, a3⟩ := hT p hp
        refine ⟨ps', by rw [upd_ne (ne_of_none a1 nC), upd_ne hb]; exact a1, a2, fun p' cv hcv => ?_⟩
        obtain ⟨c0, e1, e2⟩ := a3 p' cv hcv
        exact ⟨c0, e1, hE _ _ e2 codeO_ne⟩
    have nF := I1.hok.fresh (Nat.le_refl _)
    have I2 := inv_lam (F := lamF X params scope c') (body := body) (t' := tk) (pm := (X.mg "__name__").getD .none) (ctv := ctv) I1 rfl
    refine h h'.objs.size c' _ _ I2 (fun b o e n => ?_) (fun b e => upd_none (upd_none (upd_none e))) (T1.ext fun b o e => ?_) (I.hok.fresh (Nat.le_trans hge (Nat.le_of_lt hlt))) upd_same ?_
    · have e1 := hE b o e n
      exact (upd_ne (ne_of_none e1 nF)).trans e1
    · exact (upd_ne (ne_of_none e nF)).trans e
    · exact (upd_ne (Nat.ne_of_lt hlt)).trans upd_same
  | some cv =>
    obtain ⟨c', e, hco⟩ := ha pos cv hc
    subst e
    refine PySem.W.kla_makeFunctionHit (mg := X.mg) (c := c) (P := P) (ps := ps) (closure_ok hfree) I.ok.glob (I.mod.glob.keeps I.bk) hcode (TB.code.keeps I.bk) hP' ht hc bP fun ctv h' tk hx hsz => ?_
    have I1 : Inv X pins σ H { s with heap := h', toks := tk } := I.kept hx
    have nF : H h'.objs.size = none := I1.hok.fresh (Nat.le_refl _)
    have I2 := inv_lam (F := lamF X params scope c') (body := body) (t' := tk) (pm := (X.mg "__name__").getD .none) (ctv := ctv) I1 rfl
    refine h h'.objs.size c' _ _ I2 (fun b o e n => ?_) (fun b e => upd_none e) (hT.ext fun b o e => ?_) nF upd_same ?_
    · exact (upd_ne (ne_of_none e nF)).trans e
    · exact (upd_ne (ne_of_none e nF)).trans e
    · exact (upd_ne (ne_of_none hco nF)).trans hco
end
/-- lambda ..: .., as a value -/
def tLamV (T : List (Addr × Str)) (mk : Addr → NF) (body : Expr) : TE := fun _ H Q => Tabs T H ∧ ∀ (f c' : Addr) (H1 : Hp), ExtN H H1 → (∀ b, H1 b = none → H b = none) → Tabs T H1 → H f = none → H1 f = some (LamO f (mk c') body) → H1 c' = some (CodeO c' (mk c').qual) → Q (.ref f) H1
section
variable {X : Cx}
theorem pe_lamV {T : List (Addr × Str)} {c P : Addr} {params : Arguments} {body : Expr} {scope : Scope} {pos : Pos} (TB : TabB X.base X.mg c P) (hcode : X.env.code = .ref c)
    (hm : (P, X.env.qual ++ "<lambda>") ∈ T) (hu : ∀ p ∈ T, p.1 = P → p.2 = X.env.qual ++ "<lambda>") (hdef : defaultsOf params X.env = ([], []))
    (hfree : ∀ y ∈ scope.names, y.2 = .free → X.env.scope.names.lookup y.1 = some .cell ∨ X.env.scope.names.lookup y.1 = some .free) :
    PE X (.Lambda params body scope pos) (tLamV T (lamF X params scope) body) := by
  refine ⟨fun pins s σ H Q I h => ?_⟩
  obtain ⟨hT, h⟩ := h
  have hfr : ∀ y ∈ scope.names, y.2 = .free → ∃ c, X.env.cells.lookup y.1 = some c := fun y hy e => (hfree y hy e).elim (fun z => I.ok.has _ (.inl z)) fun z => I.ok.has _ (.inr z)
  exact lam_makeT I TB hcode hm hu hT hdef hfr fun f c' H1 s' I1 eN nn T1 f0 f1 c1 => ⟨.ref f, H1, I1, rfl, h f c' H1 eN nn T1 f0 f1 c1⟩
end
/-! ### defs whose promise stands on pins -/
structure FnD (P : Program) (w : World) (K : PySem.W.Frag) (mg : Str → Option Value) (base : Heap) (k : Nat) (f : Addr) (fd : FuncData) (ps : List Str) (sp : Pins → Sp) : Prop where
  len : ∀ D vs H Q, sp D vs H Q L2.E0 → vs.length = ps.length
  run : ∀ (D : Pins) (B : Around) (outer : List Env) (s : Shared) (H : Hp) (args : Args) (us : List Value) (vs : List V) (Q : VK), Room k B → Env0 P w K mg base B outer s H →
    BindsTo s fd args (ps.zip us) → Vals vs us → Dep D outer s H → sp D vs H Q L2.E0 → codeAny (model P w) B (.call (.ref f) args) (CR L2.CX0 outer P w H s Q L2.E0) s
/-- THE RULE for such a def; c: its code object -/
theorem fnd_of {P : Program} {w : World} {K : PySem.W.Frag} {mg : Str → Option Value} {base : Heap} {x qual : Str} {st : Stmt} {f c : Addr} {N ps : List Str} {k : Nat} {sp : Pins → Sp} {oc : Value} {od : Option Addr} {kV doc pm : Value} {an : Option Addr} {ct : Value} {osl : Array (Option Value)}
    (lk : K.lookup f = some ⟨oc, od, .func (PySem.W.fnOf x qual (L2.defArgs st) (L2.defBody st) (L2.defScope st) .none kV doc pm an (.ref c) ct), osl⟩) (hcd : PySem.W.codeIn K (.ref c) qual = true)
    (S : FnScope N ps (L2.defScope st)) (len : ∀ D vs H Q, sp D vs H Q L2.E0 → vs.length = ps.length)
    (body : ∀ (D : Pins) (B : Around) (outer : List Env) (s : Shared) (H : Hp) (vs : List V) (Q : VK), Room k (B.deeper (envOfC qual (L2.defScope st) s.heap.objs.size f (.ref c))) → Dep D outer s H → sp D vs H Q L2.E0 →
      ∃ t, PSs (cxOf L2.CX0 P w K mg base N qual (L2.defScope st) f (.ref c) B outer s H L2.E0).nox (L2.defBody st) t ∧ t { nx := fun _ H' => Q .non H', rt := Q } (start N vs) H) :
    FnD P w K mg base (k + 1) f (PySem.W.fnOf x qual (L2.defArgs st) (L2.defBody st) (L2.defScope st) .none kV doc pm an (.ref c) ct) ps sp := by
  refine ⟨len, fun D B outer s H args us vs Q hr e0 hb r d hsp => ?_⟩
  have hl := len _ _ _ _ hsp
  have KX : K.In s.heap := e0.mod.kin.keeps fun b o e => (e0.bs b o e).1
  have lim : s.heap.NoLimit := e0.mod.nolimit.keeps fun b o e => (e0.bs b o e).1
  have kinds : ∀ y ∈ ps.zip us, (L2.defScope st).names.lookup y.1 = some .local ∨ ((L2.defScope st).names.lookup y.1 = some .cell ∧ ((cellsFrom (s.heap.objs.size + 1) (L2.defScope st).names []).lookup y.1).isSome = true) := by
    rintro ⟨n, v⟩ hy
    exact (S.par n (List.of_mem_zip hy).1).imp id fun q => ⟨q, PySem.W.cellsFrom_some _ _ _ (.inl q)⟩
  refine codeAny_call_function hr.depth (KX _ _ lk) rfl S.co S.gen rfl (PySem.W.codeRec_of KX hcd) (hb _ _ _ _ ?_)
  refine wpAny_newFunctionEnv_cells S.kind kinds fun env he s1 z => ?_
  subst he
  refine ⟨lim.keeps z.toInCall.keep, codeAny_func ?_⟩
  obtain ⟨t, ht, hq⟩ := body D B outer s H vs Q (hr.deeper _) d hsp
  have I := inv_start (CX := L2.CX0) (E := L2.E0) S hr.hd e0 hl r z
  refine wpAny_mono (ht.nox.run [] s1 (start N vs) H _ I hq) (fun fl s' hs => ?_) fun e s' hs => hs
  match fl, hs with
  | .ret u, ⟨v, σ', H', J, rv, q⟩ => exact ⟨v, H', J.os, J.bare, J.base, J.hok, rv, q⟩
  | .next, ⟨σ', H', J, q⟩ => exact ⟨V.non, H', J.os, J.bare, J.base, J.hok, rfl, q⟩
  | .brk, ⟨_, _, _, q⟩ => exact False.elim q
  | .cont, ⟨_, _, _, q⟩ => exact False.elim q
section
variable {X : Cx} {k : Nat} {f : Addr} {fd : FuncData} {ps : List Str} {sp : Pins → Sp} {x : Str} {p pos : Pos} {e : Expr} {es : List Expr} {t : TA} {D0 : Pins}
/-- f(e, ..), what stands for D0 and the cells cl of the running def -/
def tDCall (D0 : Pins) (cl : List (Str × Addr)) (fr : List Str) (js : List Nat) (sp : Pins → Sp) (t : TA) : TE := fun σ H Q => t σ H fun vs H1 => ∀ D1 : Pins, CellD D1 cl fr (js.map (slotAt σ)) → sp (D0 ++ D1) vs H1 Q L2.E0
theorem pe_dcall {cl : List (Str × Addr)} {fr : List Str} {js : List Nat} (F : FnD X.prog X.w X.K X.mg X.base k f fd ps sp) (hr : Room k X.A) (hx : X.ex = []) (hfn : ∀ x, X.fn x = true) (d : Dep D0 X.outer X.s_0 X.H_0) (cp : X.Ok → Caps X cl fr js)
    (hg : Gl X x) (hm : X.mg x = some (.ref f)) (hk : PySem.W.keepIn X.K (.ref f) = true) (hb : L2.Binds X.K fd ps [])
    (ha : PA X (e :: es) t) (hdb : (x == ("__debug__" : Str)) = false := by decide) (he : starEach (e :: es) X.env = (false, eval e X.env) :: starEach es X.env := by rfl) (hpl : (backTo pos (starEach es X.env)).any (·.1) = false := by rfl) :
    PE X (.Call (.Name x p) (e :: es) [] pos) (tDCall D0 cl fr js sp t) := by
  refine ⟨fun pins s σ H Q I h => wpAny_Call_Name_kw (ld_glob I hg hm ?_ hdb)⟩
  refine PySem.W.callWith_K (h₀ := X.base) I.ok.mod.kin hk (thn (ha.run pos pins s σ H _ I h) fun us s1 ⟨vs, H1, I1, r, q⟩ => ⟨I1.kIn, ?_⟩) he hpl
  obtain ⟨D1, d1, C1⟩ := own_cells I1 hx hfn (cp I1.ok)
  have hq := q D1 C1
  have hl : (us ++ []).length = ps.length := by
    rw [List.append_nil, ← r.length]
    exact F.len _ _ _ _ hq
  have hb' := hb s1 us I1.kIn hl
  rw [List.append_nil] at hb'
  refine wpAny_call (codeAny_mono (F.run (D0 ++ D1) X.A X.stack s1 H1 ⟨us, []⟩ us vs Q hr I1.env0 hb' r ((d.go hx I1).app d1) hq) fun q s' hq => ?_)
  match q, hq with
  | .error _, hq => exact False.elim hq
  | .ok (.ret _), hq => exact I1.after hq
  | .ok .next, hq => exact False.elim hq
  | .ok .brk, hq => exact False.elim hq
  | .ok .cont, hq => exact False.elim hq
end
end KT

namespace KT
open PySem PySem.Spec PyProof.Rows L2 NdefX LamX
/-- a promise that needs no pins is one of the plain kind -/
theorem FnD.ok {P : Program} {w : World} {K : PySem.W.Frag} {mg : Str → Option Value} {base : Heap} {k : Nat} {f : Addr} {fd : FuncData} {ps : List Str} {sp : Sp} (F : FnD P w K mg base k f fd ps (fun _ => sp)) (h0 : ∀ vs H Q E, sp vs H Q E → sp vs H Q L2.E0) : FnOk P w K mg base L2.CX0 k f fd ps sp := by
  refine ⟨fun vs H Q E h => F.len [] vs H Q (h0 _ _ _ _ h), fun B outer s H args us vs Q E hr e0 hb r h => codeAny_mono (F.run [] B outer s H args us vs Q hr e0 hb r Dep.nil (h0 _ _ _ _ h)) fun q s' hq => ?_⟩
  match q, hq with
  | .error _, hq => exact False.elim hq
  | .ok (.ret _), hq => exact hq
  | .ok .next, hq => exact False.elim hq
  | .ok .brk, hq => exact False.elim hq
  | .ok .cont, hq => exact False.elim hq
theorem CellD.nil {D : Pins} : CellD D [] [] [] := ⟨rfl, fun y c e => (by cases e), fun x y c e => (by cases e), fun i y e => (by simp at e)⟩
theorem Caps.nil {X : Cx} : Caps X [] [] [] := ⟨fun y c e => (by cases e), fun y hy => (by cases hy), fun y hy => (by cases hy), rfl⟩
section
variable {P : Program} {w : World} {K : PySem.W.Frag} {mg : Str → Option Value} {base : Heap} {N ps fr : List Str} {ws : List (Option V)} {F : NF} {f : Addr} {k : Nat} {sp : Sp} {D : Pins} {body : Expr} {H0 : Hp}
theorem lam_callee (e1 : H0 f = some (LamO f F body)) (e2 : H0 F.c = some (CodeO F.c F.qual)) (S : NScope N ps fr F.scope) (hb : ∀ (pm ctv : Value) (us : List Value), us.length = ps.length → bindArgs (PySem.W.kla_fn F.name F.qual F.params body F.scope F.cl pm (.ref F.c) ctv) ⟨us, []⟩ = pure (ps.zip us))
    (len : ∀ vs H Q, sp vs H Q L2.E0 → vs.length = ps.length) (C : CellD D F.cl fr ws)
    (hbody : ∀ (A : Around) (outer : List Env) (s : Shared) (H : Hp) (vs : List V) (Q : VK), Room k (A.deeper (envF F f s.heap.objs.size)) → Dep D outer s H → sp vs H Q L2.E0 →
      ∃ t, PE (ncx L2.CX0 P w K mg base N F f A outer s H L2.E0) body t ∧ t (startF N vs ws) H Q) :
    ∃ EX : Exts, Callee P w K mg base (k + 1) f sp D EX ∧ ExOk EX H0 ∧ ∀ p ∈ EX, ∀ ps, p.2 ≠ HO.tbl ps := by
  refine ⟨[(f, LamO f F body), (F.c, CodeO F.c F.qual)], callee_lam S hb len List.mem_cons_self (List.mem_cons_of_mem _ List.mem_cons_self) C fun A outer s H vs Q hr d _ h => hbody A outer s H vs Q hr d h, fun p hp => ?_, fun p hp ps => ?_⟩
  · rcases List.mem_cons.mp hp with rfl | hp
    · exact e1
    · rcases List.mem_cons.mp hp with rfl | hp
      · exact e2
      · exact absurd hp (by simp)
  · rcases List.mem_cons.mp hp with rfl | hp
    · exact fun z => by
        unfold LamO at z
        cases z
    · rcases List.mem_cons.mp hp with rfl | hp
      · exact codeO_ne ps
      · exact absurd hp (by simp)
end
end KT

namespace KT
open PySem PySem.Spec PyProof.Rows L2
theorem vals_at : ∀ {xs : List V} {us : List Value}, xs.length = us.length → (∀ (i : Nat) (x : V) (u : Value), xs[i]? = some x → us[i]? = some u → L2.RelV x u) → Vals xs us
  | [], [], _, _ => .nil
  | [], _ :: _, h, _ => by simp at h
  | _ :: _, [], h, _ => by simp at h
  | x :: xs, u :: us, h, k => .cons (k 0 x u rfl rfl) (vals_at (by simpa using h) fun i y v e1 e2 => k (i + 1) y v (by simpa using e1) (by simpa using e2))
section
variable {X : Cx}
/-- the signs of a text, one by one -/
def signsV (z : Str) : List V := z.cps.toList.map fun c => V.str ⟨#[c]⟩
/-- list(text) -/
theorem call_listS (hc : X.calm = true) : CallR X (.type "list") (fun xs H Q => ∃ z : Str, xs = [.str z] ∧ z.cps.size ≤ sizeLine ∧ ∀ p, H p = none → Q (.ref p) (upd H p (.lst (signsV z)))) := by
  intro pins s σ H xs us Q I r h
  obtain ⟨z, rfl, hz, q⟩ := h
  obtain ⟨u, rfl, t, rfl⟩ := vals1 r
  refine PySem.call_list_str (I.ok.hd hc) z t (fun h' tk acc c hk e hi => ?_) hz
  have rv : Vals (signsV z) acc.toList := by
    refine vals_at ?_ fun i x u h1 h2 => ?_
    · unfold signsV
      rw [List.length_map, Array.length_toList, Array.length_toList]
      exact hi.1.symm
    · obtain ⟨c, u', hc', rfl⟩ := hi.2 i u (by rw [← h2, Array.getElem?_toList])
      unfold signsV at h1
      rw [List.getElem?_map, Array.getElem?_toList, hc'] at h1
      cases h1
      exact ⟨u', rfl⟩
  refine ⟨.ref s.heap.objs.size, upd H s.heap.objs.size (.lst (signsV z)), I.laid hk (Nat.le_refl _) (show ObjOk X.prog X.w _ _ _ (.lst (signsV z)) from ⟨?_, acc.toList, c, rv, ?_⟩), rfl, q _ (I.hok.fresh (Nat.le_refl _))⟩
  · unfold signsV
    rw [List.length_map, Array.length_toList]
    exact hz
  · rw [Array.toArray_toList]
    exact e
end
end KT

namespace U6
open PySem PySem.Spec PyProof.Rows L2 KT
open PySem.W (Frag)
open TL (tl tl_append)
theorem PurseAt.mono {H : Hp} {a : Addr} {n m : Nat} (h : PurseAt H a n) (l : n ≤ m) : PurseAt H a m := by
  obtain ⟨p0, p1, p2, p3, e, h0, h1, h1', h2, h2', h3, h3'⟩ := h
  exact ⟨p0, p1, p2, p3, e, h0, h1, h1', h2, by omega, h3, h3'⟩
theorem PurseAt.upd {H : Hp} {a b : Addr} {n : Nat} {o : HO} (h : PurseAt H a n) (l : a ≠ b) : PurseAt (upd H b o) a n := by
  obtain ⟨p0, p1, p2, p3, e, r⟩ := h
  exact ⟨p0, p1, p2, p3, by rw [upd_ne l]; exact e, r⟩
theorem PurseAt.ne {H : Hp} {a b : Addr} {n : Nat} (h : PurseAt H a n) (e : H b = none) : a ≠ b := by
  obtain ⟨p0, p1, p2, p3, e', _⟩ := h
  exact ne_of_none e' e
theorem KeepBut.upd_new {a b : Addr} {H H' : Hp} {o : HO} (k : KeepBut a H H') (n : H b = none) : KeepBut a H (upd H' b o) := fun c u e hc => by
  rw [upd_ne (ne_of_none e n)]
  exact k c u e hc
theorem isW_bent {b : Str} {s c : Nat} (h : IsW b) (hs : s < b.length) (hc : 97 ≤ c ∧ c ≤ 122) : IsW (cutS b none (some (s : Int)) ++ (⟨#[c]⟩ : Str) ++ cutS b (some ((s : Int) + 1)) none) := by
  obtain ⟨h1, h2, h3⟩ := h
  have e1 : (cutS b none (some (s : Int))).cps.toList = b.cps.toList.take s := by
    unfold cutS
    rw [HT.sIx_nat, HT.sIx_none]
    have : min s b.length - 0 = s := by omega
    rw [this]
    simp
  have e2 : (cutS b (some ((s : Int) + 1)) none).cps.toList = b.cps.toList.drop (s + 1) := by
    unfold cutS
    have e : ((s : Int) + 1) = ((s + 1 : Nat) : Int) := by omega
    rw [e, HT.sIx_nat, HT.sIx_none]
    have : min (s + 1) b.length = s + 1 := by omega
    rw [this]
    have l : b.cps.toList.length = b.length := Array.length_toList
    show (List.take _ _).toArray.toList = _
    rw [List.take_of_length_le (by rw [List.length_drop, l]; exact Nat.le_refl _)]
  have et : (cutS b none (some (s : Int)) ++ (⟨#[c]⟩ : Str) ++ cutS b (some ((s : Int) + 1)) none).cps.toList = b.cps.toList.take s ++ [c] ++ b.cps.toList.drop (s + 1) := by
    show tl _ = _
    rw [tl_append, tl_append]
    show (cutS b none (some (s : Int))).cps.toList ++ [c] ++ (cutS b (some ((s : Int) + 1)) none).cps.toList = _
    rw [e1, e2]
  have l : b.cps.toList.length = b.length := Array.length_toList
  have el : (cutS b none (some (s : Int)) ++ (⟨#[c]⟩ : Str) ++ cutS b (some ((s : Int) + 1)) none).length = b.length := by
    have q := congrArg List.length et
    rw [List.length_append, List.length_append, List.length_take, List.length_drop, l, List.length_singleton] at q
    have q2 : (cutS b none (some (s : Int)) ++ (⟨#[c]⟩ : Str) ++ cutS b (some ((s : Int) + 1)) none).cps.toList.length = (cutS b none (some (s : Int)) ++ (⟨#[c]⟩ : Str) ++ cutS b (some ((s : Int) + 1)) none).length := Array.length_toList
    omega
  refine ⟨by omega, by omega, fun x hx => ?_⟩
  rw [et] at hx
  rcases List.mem_append.mp hx with hx | hx
  · rcases List.mem_append.mp hx with hx | hx
    · exact h3 x (List.mem_of_mem_take hx)
    · rw [List.mem_singleton.mp hx]
      exact hc
  · exact h3 x (List.mem_of_mem_drop hx)
theorem cutS_len (z : Str) (lo hi : Option Int) : (cutS z lo hi).length ≤ z.length := by
  have l : z.cps.toList.length = z.length := Array.length_toList
  have e : (cutS z lo hi).length = ((z.cps.toList.drop (HT.sIx z.length 0 lo)).take (HT.sIx z.length z.length hi - HT.sIx z.length 0 lo)).length := by
    unfold cutS Str.length
    rw [List.size_toArray]
  rw [e, List.length_take, List.length_drop]
  omega
theorem flat_map (zs : List Str) : (zs.map V.str).all flatV = true := by
  rw [List.all_eq_true]
  intro x hx
  obtain ⟨z, _, rfl⟩ := List.mem_map.mp hx
  rfl
theorem inV_str (z : Str) (zs : List Str) : inV (.str z) (zs.map V.str) = decide (z ∈ zs) := by
  unfold inV
  rw [List.any_map, Bool.eq_iff_iff, List.any_eq_true, decide_eq_true_eq]
  constructor
  · rintro ⟨x, hx, e⟩
    have e' : (x == z) = true := e
    rw [← eq_of_beq e']
    exact hx
  · intro h
    exact ⟨z, h, (show (z == z) = true from beq_self_eq_true z)⟩
section
variable {P : Program} {w : World} {K : Frag} {mg : Str → Option Value} {base : Heap}
def spWords : Sp := fun vs H Q _ => ∃ (a : Addr) (n : Nat) (many : Int), vs = [.ref a, .int many] ∧ PurseAt H a n ∧ n ≤ 800000000000 ∧ 1 ≤ many ∧ many ≤ 3 ∧
  ∀ (L : Addr) (zs : List Str) (H' : Hp), (∀ z ∈ zs, IsW z) → zs.Nodup → zs.length = many.toNat → KeepBut a H H' → H L = none → H' L = some (.lst (zs.map V.str)) → PurseAt H' a (n + 50) → Q (.ref L) H'
theorem nodup_len : ∀ (l D : List Str), l.Nodup → (∀ x ∈ l, x ∈ D) → l.length ≤ D.length
  | [], _, _, _ => Nat.zero_le _
  | x :: l, D, h, s => by
    obtain ⟨h1, h2⟩ := List.nodup_cons.mp h
    have hx := s x List.mem_cons_self
    have q := nodup_len l (D.erase x) h2 fun y hy => (List.mem_erase_of_ne (fun e => h1 (by rw [← e]; exact hy))).mpr (s y (List.mem_cons_of_mem _ hy))
    rw [List.length_erase_of_mem hx] at q
    have : 0 < D.length := List.length_pos_of_mem hx
    rw [List.length_cons]
    omega
def letters : List Str := (List.range 26).map fun j => (⟨#[97 + j]⟩ : Str)
theorem letters_nd : letters.Nodup := by decide +kernel
theorem abc_signs : signsV abc = letters.map V.str := by decide +kernel
theorem letters_w {y : Str} (h : y ∈ letters) : IsW y := by
  obtain ⟨j, hj, rfl⟩ := List.mem_map.mp h
  have := List.mem_range.mp hj
  refine ⟨by show 1 ≤ 1; omega, by show 1 ≤ 8; omega, fun c hc => ?_⟩
  have hc' : c ∈ [97 + j] := hc
  have := List.mem_singleton.mp hc'
  omega
/-- a letter that none of a few words is -/
theorem free_letter (zs : List Str) (h : zs.length ≤ 3) : ∃ y r, letters.filter (fun z => decide (z ∉ zs)) = y :: r := by
  cases e : letters.filter (fun z => decide (z ∉ zs)) with
  | cons y r => exact ⟨y, r, rfl⟩
  | nil =>
    have q := nodup_len letters zs letters_nd fun x hx => by
      refine Classical.byContradiction fun n => ?_
      have : x ∈ letters.filter (fun z => decide (z ∉ zs)) := List.mem_filter.mpr ⟨hx, decide_eq_true n⟩
      rw [e] at this
      cases this
    have : letters.length = 26 := by decide
    omega
theorem filter_snoc' {α : Type} (p : α → Bool) (l : List α) (i : Nat) (x : α) (h : l[i]? = some x) : (l.take (i + 1)).filter p = if p x then (l.take i).filter p ++ [x] else (l.take i).filter p := by
  rw [List.take_add_one, h, List.filter_append]
  by_cases c : p x <;> simp [c]
theorem nodup_snoc {zs : List Str} {y : Str} (h : zs.Nodup) (n : y ∉ zs) : (zs ++ [y]).Nodup := by
  rw [List.nodup_append]
  refine ⟨h, by simp, fun a ha b hb e => ?_⟩
  rw [List.mem_singleton.mp hb] at e
  exact n (e ▸ ha)
theorem ok_words {f fw fd_ fm : Addr} {fd fdw fdd fdm : FuncData} (T : Top K mg "_law_words" sLWords pLWords f fd) (TW : Top K mg "_law_word" sLWord ["purse"] fw fdw) (TD : Top K mg "_law_draw" sLDraw ["purse", "many"] fd_ fdd)
    (TM : Top K mg "_law_mixed" sLMixed ["seed", "spin", "at"] fm fdm) (B : Blt mg) : FnOk P w K mg base CX0 4 f fd pLWords spWords := by
  have GD : FnOk P w K mg base CX0 2 fd_ fdd ["purse", "many"] spDraw := ok_draw TD TM B
  have GW : FnOk P w K mg base CX0 3 fw fdw ["purse"] spWord := ok_word TW TD TM B
  refine T.F.ok scLWords (fun vs H Q E h => ?_) (fun cdv A outer s H vs Q E hr h => ?_)
  · obtain ⟨_, _, _, rfl, _⟩ := h
    rfl
  · obtain ⟨a, n, many, rfl, hp, hn, hm1, hm2, k⟩ := h
    have hr2 : Room 2 _ := hr.mono (by decide)
    refine ⟨_, (pss_cons (ps_par (i := 2) (j := 3) rfl scLWords.nd rfl rfl (by decide) rfl rfl (pa_cons (pe_call GW hr rfl TW.g TW.F.kp TW.b .nil pass0 (pa_cons (pv 0) pa_nil)) (pa_cons (pe_cmpR op_eq (pe_call GD hr2 rfl TD.g TD.F.kp TD.b .nil pass0 (pa_cons (pv 0) (pa_cons pe_int pa_nil))) pe_int (nomark _)) pa_nil)) (by rfl))
      (pss_cons (ps_asg (pe_tup (pa_cons (pe_call GD hr2 rfl TD.g TD.F.kp TD.b .nil pass0 (pa_cons (pv 0) (pa_cons (pe_callB call_len_str (by rfl) B.len PySem.boot_len (pa_cons (pv 2) pa_nil)) pa_nil))) (pa_cons (pe_lst pa_nil) pa_nil))) (pg_tup (by rfl) (pgs_cons (pg_name (i := 4) scLWords.nd rfl (Or.inl rfl)) (pgs_cons (pg_name (i := 5) scLWords.nd rfl (Or.inr rfl)) pgs_nil))))
      (pss_cons (ps_for PassesOwn.never rfl (pi_range1 (by rfl) B.range (pa_cons (pv 1) pa_nil)) (pg_name (i := 6) scLWords.nd rfl (Or.inl rfl))
        (pss_cons (ps_set (i := 7) scLWords.nd rfl (Or.inl rfl) (pe_op op_add_str (pe_op op_add_str (pe_slice sl_str (pv 2) po_none (po_some (pv 4))) (pe_ix ix_str pe_str (pe_call GD hr2 rfl TD.g TD.F.kp TD.b .nil pass0 (pa_cons (pv 0) (pa_cons pe_int pa_nil))) (fun _ _ => rfl))) (pe_slice sl_str (pv 2) (po_some (pe_op op_add (pv 4) pe_int)) po_none)))
      (pss_cons (ps_if (pt_not (pt_val (pv 3))) (pss_one (ps_set (i := 7) scLWords.nd rfl (Or.inl rfl) (pe_call GW hr rfl TW.g TW.F.kp TW.b .nil pass0 (pa_cons (pv 0) pa_nil)))) pss_nil)
      (pss_cons (ps_if (pt_cmpR op_in_seq (pv 7) (pv 5) (by rfl))
            (pss_one (ps_set (i := 7) scLWords.nd rfl (Or.inl rfl) (pe_ix ix_list (pe_lc (own := [("letter", 8)]) (g := gName 8) rfl scLWords.nd (pi_list (pe_callTy (call_listS rfl) (by rfl) B.list (by decide +kernel) (pa_cons pe_str pa_nil))) (blkOk_by (N := nLWords) (sc := defScope sLWords) (by decide +kernel)) (fun _ _ _ _ _ => pg_name (i := 8) scLWords.nd rfl (Or.inl rfl)) (fun _ _ _ _ _ => pts_one (pt_cmpR (show OpR _ _ (rIn K true) from op_notIn_seq) (pv 8) (pv 5) (by rfl))) (fun _ _ _ _ _ => (pv 8))) pe_int (fun _ _ => rfl)))) pss_nil)
      (pss_one (ps_expr (pe_bm PySem.F.plainAttrs_list PySem.F.slot_list_append PySem.F.type_list_append mt_append (pv 5) (pa_cons (pv 7) pa_nil))))))))
      (pss_one (ps_ret (pv 5)))))), ?_⟩
    refine ⟨_, rfl, a, n, rfl, hp, by omega, fun b H1 hb kb1 hp1 => ?_⟩
    obtain ⟨b1, b2, b3⟩ := id hb
    refine ⟨_, rfl, a, n + 10, 3, rfl, hp1, by omega, by decide, by decide, fun d2 H2 c0 c1 off2 hp2 => ⟨rfl, _, _, rfl, ?_⟩⟩
    have kb2 : KeepBut a H H2 := kb1.trans (.of_off off2)
    refine ⟨_, rfl, _, rfl, _, rfl, by rw [sizeLine_eq]; omega, a, n + 11, _, rfl, hp2, by omega, by omega, by omega, fun s0 H3 e0 e1 off3 hp3 => ?_⟩
    have kb3 : KeepBut a H H3 := kb2.trans (.of_off off3)
    obtain ⟨s, rfl⟩ := Int.eq_ofNat_of_zero_le e0
    refine ⟨by show 0 ≤ sizeLine; exact Nat.zero_le _, fun L hL => ⟨by show 2 ≤ sizeLine; rw [sizeLine_eq]; omega, fun T hT => ?_⟩⟩
    have nLa : a ≠ L := hp3.ne hL
    have nHL : H L = none := kb3.free hL nLa.symm
    have nLT : L ≠ T := ne_of_none upd_same hT
    have nT : H3 T = none := by
      rw [upd_ne nLT.symm] at hT
      exact hT
    have nHT : H T = none := kb3.free nT (hp3.ne nT).symm
    have hp4 := (hp3.upd (o := .lst []) nLa).upd (b := T) (o := .tup [.int (s : Nat), .ref L]) (hp3.ne nT)
    have kb4 : KeepBut a H (upd (upd H3 L (.lst [])) T (.tup [.int (s : Nat), .ref L])) := (kb3.upd_new nHL).upd_new nHT
    refine ⟨T, _, rfl, SqT.of upd_same, rfl, _, _, rfl, _, _, rfl, rfl, ?_⟩
    refine ⟨_, rfl, many, rfl, by omega, by omega, ?_⟩
    refine for_range (lo := 0) (n := many.toNat) (fun i σ H' => ∃ (v6 v7 v8 : Option V) (zs : List Str), σ = [some (.ref a), some (.int many), some (.str b), some (.bl (decide (V.int d2 = V.int 0))), some (.int (s : Nat)), some (.ref L), v6, v7, v8] ∧ (∀ z ∈ zs, IsW z) ∧ zs.Nodup ∧ zs.length = i ∧ KeepBut a H H' ∧ H' L = some (.lst (zs.map V.str)) ∧ PurseAt H' a (n + 12 + 11 * i))
      ⟨none, none, none, [], rfl, fun z hz => absurd hz (by simp), List.nodup_nil, rfl, kb4, by rw [upd_ne nLT, upd_same]; rfl, hp4.mono (by omega)⟩ ?_ ?_
    · rintro i σ H' hi ⟨v6, v7, v8, zs, rfl, hzs, nd, hl, kb', eL', hp'⟩
      have hi3 : i < 3 := by omega
      refine ⟨_, rfl, _, rfl, _, rfl, b, rfl, by rw [sizeLine_eq]; omega, _, rfl, a, _, 26, rfl, hp', by omega, by decide, by decide, fun d5 H5 g0 g1 off5 hp5 => ?_⟩
      obtain ⟨j, rfl⟩ := Int.eq_ofNat_of_zero_le g0
      have hj : j < 26 := by omega
      have eL5 : H5 L = some (.lst (zs.map V.str)) := by rw [off5 L nLa.symm]; exact eL'
      have kb5 : KeepBut a H H5 := kb'.trans (.of_off off5)
      have lc1 := cutS_len b none (some (s : Int))
      have lc2 := cutS_len b (some ((s : Int) + 1)) none
      have hz : IsW (cutS b none (some (s : Int)) ++ (⟨#[97 + j]⟩ : Str) ++ cutS b (some ((s : Int) + 1)) none) := isW_bent hb (by omega) (by omega)
      refine ⟨abc, _, _, rfl, rfl, by decide, atI_nat (abc_at j hj), _, _, rfl, rfl, by rw [sizeLine_eq]; show _ + 1 ≤ _; omega, ?_⟩
      refine ⟨_, rfl, _, rfl, _, _, rfl, rfl, _, rfl, b, rfl, by rw [sizeLine_eq]; omega, _, _, rfl, rfl, by rw [sizeLine_eq, strLen_append]; show _ + 1 + _ ≤ _; omega, ?_⟩
      generalize decide (V.int d2 = V.int 0) = nb
      cases nb with
      | false =>
        refine ⟨_, rfl, _, rfl, iteT ⟨_, rfl, a, _, rfl, hp5, by omega, fun z H6 hz6 kb56 hp6 => ?_⟩⟩
        have hz := hz6
        have kb6 : KeepBut a H H6 := kb5.trans kb56
        have eL3 : H6 L = some (.lst (zs.map V.str)) := kb56 _ _ eL5 nLa.symm
        have hp7 : PurseAt H6 a (n + 12 + 11 * (i + 1)) := hp6.mono (by omega)
        refine ⟨_, rfl, _, rfl, L, _, rfl, .inl (SqL.of eL3), rfl, flat_map zs, _, rfl, ?_⟩
        rw [inV_str]
        refine ite2 (fun hin => ?_) (fun hin => ?_)
        · refine ⟨abc, rfl, by rw [sizeLine_eq]; decide, fun p hpn => ⟨p, rfl, ⟨_, SqL.of upd_same⟩, fun D hD => ?_⟩⟩
          have nLp : L ≠ p := ne_of_none eL3 hpn
          have npD : p ≠ D := ne_of_none upd_same hD
          have nLD : L ≠ D := ne_of_none (show upd _ p _ L = _ by rw [upd_ne nLp]; exact eL3) hD
          have nap := hp7.ne hpn
          have naD := (hp7.upd (o := .lst (signsV abc)) nap).ne hD
          refine lc_list (K := K) (xs := signsV abc) (fun i H' => H' = upd (upd H6 p (.lst (signsV abc))) D (.lst (((letters.take i).filter fun z => decide (z ∉ zs)).map V.str))) rfl ?_ ?_ ?_
          · rintro i H' hi rfl
            exact SqL.of (by rw [upd_ne npD, upd_same])
          · rintro i x H' hx rfl
            rw [abc_signs, List.getElem?_map] at hx
            obtain ⟨y, hy, rfl⟩ := Option.map_eq_some_iff.mp hx
            refine ⟨rfl, _, rfl, _, rfl, L, _, rfl, .inl (SqL.of (by rw [upd_ne nLD, upd_ne nLp]; exact eL3)), rfl, flat_map zs, _, rfl, ?_⟩
            rw [inV_str, filter_snoc' _ _ _ _ hy]
            by_cases c : y ∈ zs
            · rw [decide_eq_true c, decide_eq_false (not_not_intro c)]
              exact iteF rfl
            · rw [decide_eq_false c, decide_eq_true c]
              refine iteT ⟨_, rfl, _, upd_same, ?_, ?_⟩
              · rw [List.length_map, sizeLine_eq]
                have := List.length_filter_le (fun z => decide (z ∉ zs)) (letters.take i)
                have l26 : letters.length = 26 := by decide
                rw [List.length_take, l26] at this
                omega
              · rw [upd_upd, if_pos rfl, List.map_append]
                rfl
          · rintro H' rfl
            obtain ⟨y, r, hy⟩ := free_letter zs (by omega)
            have l26 : (signsV abc).length = letters.length := by rw [abc_signs, List.length_map]
            rw [l26, List.take_length, hy]
            have hm : y ∈ letters.filter (fun z => decide (z ∉ zs)) := by rw [hy]; exact List.mem_cons_self
            obtain ⟨hm1, hm2⟩ := List.mem_filter.mp hm
            have ny : y ∉ zs := of_decide_eq_true hm2
            have eL7 : upd (upd H6 p (.lst (signsV abc))) D (.lst ((y :: r).map V.str)) L = some (.lst (zs.map V.str)) := by rw [upd_ne nLD, upd_ne nLp]; exact eL3
            refine ⟨D, _, _, _, rfl, rfl, SqL.of upd_same, atI_nat (j := 0) rfl, ?_⟩
            refine ⟨_, rfl, .inl ⟨rfl, _, SqL.of eL7⟩, _, rfl, L, _, _, rfl, rfl, eL7, by rw [List.length_map, sizeLine_eq]; omega, ?_⟩
            refine ⟨_, _, _, zs ++ [y], rfl, fun z hz' => (List.mem_append.mp hz').elim (hzs z) fun q => (List.mem_singleton.mp q) ▸ letters_w hm1, nodup_snoc nd ny, by rw [List.length_append, hl]; rfl, ?_, by rw [upd_same, List.map_append]; rfl, ?_⟩
            · exact ((kb6.upd_new (kb6.free hpn nap.symm)).upd_new (kb6.free (by rw [upd_ne npD.symm] at hD; exact hD) naD.symm)).upd_new nHL
            · exact (((hp7.upd nap).upd naD).upd nLa).mono (Nat.le_refl _)
        · refine ⟨_, rfl, .inl ⟨rfl, _, SqL.of eL3⟩, _, rfl, L, _, _, rfl, rfl, eL3, by rw [List.length_map, sizeLine_eq]; omega, ?_⟩
          refine ⟨_, _, _, zs ++ [_], rfl, fun z hz' => (List.mem_append.mp hz').elim (hzs z) fun q => (List.mem_singleton.mp q) ▸ hz, nodup_snoc nd (of_decide_eq_false (by simpa using hin)), by rw [List.length_append, hl]; rfl, kb6.upd_new nHL, by rw [upd_same, List.map_append]; rfl, hp7.upd nLa⟩
      | true =>
        have kb6 := kb5
        have eL3 := eL5
        have hp7 : PurseAt H5 a (n + 12 + 11 * (i + 1)) := hp5.mono (by omega)
        refine ⟨_, rfl, _, rfl, iteF ?_⟩
        refine ⟨_, rfl, _, rfl, L, _, rfl, .inl (SqL.of eL3), rfl, flat_map zs, _, rfl, ?_⟩
        rw [inV_str]
        refine ite2 (fun hin => ?_) (fun hin => ?_)
        · refine ⟨abc, rfl, by rw [sizeLine_eq]; decide, fun p hpn => ⟨p, rfl, ⟨_, SqL.of upd_same⟩, fun D hD => ?_⟩⟩
          have nLp : L ≠ p := ne_of_none eL3 hpn
          have npD : p ≠ D := ne_of_none upd_same hD
          have nLD : L ≠ D := ne_of_none (show upd _ p _ L = _ by rw [upd_ne nLp]; exact eL3) hD
          have nap := hp7.ne hpn
          have naD := (hp7.upd (o := .lst (signsV abc)) nap).ne hD
          refine lc_list (K := K) (xs := signsV abc) (fun i H' => H' = upd (upd H5 p (.lst (signsV abc))) D (.lst (((letters.take i).filter fun z => decide (z ∉ zs)).map V.str))) rfl ?_ ?_ ?_
          · rintro i H' hi rfl
            exact SqL.of (by rw [upd_ne npD, upd_same])
          · rintro i x H' hx rfl
            rw [abc_signs, List.getElem?_map] at hx
            obtain ⟨y, hy, rfl⟩ := Option.map_eq_some_iff.mp hx
            refine ⟨rfl, _, rfl, _, rfl, L, _, rfl, .inl (SqL.of (by rw [upd_ne nLD, upd_ne nLp]; exact eL3)), rfl, flat_map zs, _, rfl, ?_⟩
            rw [inV_str, filter_snoc' _ _ _ _ hy]
            by_cases c : y ∈ zs
            · rw [decide_eq_true c, decide_eq_false (not_not_intro c)]
              exact iteF rfl
            · rw [decide_eq_false c, decide_eq_true c]
              refine iteT ⟨_, rfl, _, upd_same, ?_, ?_⟩
              · rw [List.length_map, sizeLine_eq]
                have := List.length_filter_le (fun z => decide (z ∉ zs)) (letters.take i)
                have l26 : letters.length = 26 := by decide
                rw [List.length_take, l26] at this
                omega
              · rw [upd_upd, if_pos rfl, List.map_append]
                rfl
          · rintro H' rfl
            obtain ⟨y, r, hy⟩ := free_letter zs (by omega)
            have l26 : (signsV abc).length = letters.length := by rw [abc_signs, List.length_map]
            rw [l26, List.take_length, hy]
            have hm : y ∈ letters.filter (fun z => decide (z ∉ zs)) := by rw [hy]; exact List.mem_cons_self
            obtain ⟨hm1, hm2⟩ := List.mem_filter.mp hm
            have ny : y ∉ zs := of_decide_eq_true hm2
            have eL7 : upd (upd H5 p (.lst (signsV abc))) D (.lst ((y :: r).map V.str)) L = some (.lst (zs.map V.str)) := by rw [upd_ne nLD, upd_ne nLp]; exact eL3
            refine ⟨D, _, _, _, rfl, rfl, SqL.of upd_same, atI_nat (j := 0) rfl, ?_⟩
            refine ⟨_, rfl, .inl ⟨rfl, _, SqL.of eL7⟩, _, rfl, L, _, _, rfl, rfl, eL7, by rw [List.length_map, sizeLine_eq]; omega, ?_⟩
            refine ⟨_, _, _, zs ++ [y], rfl, fun z hz' => (List.mem_append.mp hz').elim (hzs z) fun q => (List.mem_singleton.mp q) ▸ letters_w hm1, nodup_snoc nd ny, by rw [List.length_append, hl]; rfl, ?_, by rw [upd_same, List.map_append]; rfl, ?_⟩
            · exact ((kb6.upd_new (kb6.free hpn nap.symm)).upd_new (kb6.free (by rw [upd_ne npD.symm] at hD; exact hD) naD.symm)).upd_new nHL
            · exact (((hp7.upd nap).upd naD).upd nLa).mono (Nat.le_refl _)
        · refine ⟨_, rfl, .inl ⟨rfl, _, SqL.of eL3⟩, _, rfl, L, _, _, rfl, rfl, eL3, by rw [List.length_map, sizeLine_eq]; omega, ?_⟩
          refine ⟨_, _, _, zs ++ [_], rfl, fun z hz' => (List.mem_append.mp hz').elim (hzs z) fun q => (List.mem_singleton.mp q) ▸ hz, nodup_snoc nd (of_decide_eq_false (by simpa using hin)), by rw [List.length_append, hl]; rfl, kb6.upd_new nHL, by rw [upd_same, List.map_append]; rfl, hp7.upd nLa⟩
    · rintro σ H' ⟨v6, v7, v8, zs, rfl, hzs, nd, hl, kb', eL', hp'⟩
      exact ⟨_, rfl, k L zs H' hzs nd hl kb' nHL eL' (hp'.mono (by omega))⟩
end
end U6

namespace U6
open PySem PySem.Spec PyProof.Rows L2 KT
open PySem.W (Frag)
structure Plains (zs : List Str) : Prop where
  so : sortedS zs = true
  nd : zs.Nodup
  w : ∀ z ∈ zs, IsW z
  l1 : 1 ≤ zs.length
  l3 : zs.length ≤ 3
def isWB (z : Str) : Bool := decide (1 ≤ z.length) && decide (z.length ≤ 8) && z.cps.toList.all fun c => decide (97 ≤ c) && decide (c ≤ 122)
theorem isWB_ok {z : Str} (h : isWB z = true) : IsW z := by
  unfold isWB at h
  simp only [Bool.and_eq_true, decide_eq_true_eq, List.all_eq_true] at h
  exact ⟨h.1.1, h.1.2, h.2⟩
def plainsB (zs : List Str) : Bool := sortedS zs && decide zs.Nodup && zs.all isWB && decide (1 ≤ zs.length) && decide (zs.length ≤ 3)
theorem plainsB_ok {zs : List Str} (h : plainsB zs = true) : Plains zs := by
  unfold plainsB at h
  simp only [Bool.and_eq_true, decide_eq_true_eq, List.all_eq_true] at h
  exact ⟨h.1.1.1.1, h.1.1.1.2, fun z hz => isWB_ok (h.1.1.2 z hz), h.1.2, h.2⟩
def odds : List (List Str) := [["cut", "is", "then"], ["athens", "over", "then"], ["end", "over", "under"], ["back", "is", "on"]]
theorem odds_ok : (odds.all fun zs => [1, 2, 3].all fun m => plainsB (zs.take m)) = true := by decide +kernel
section
variable {P : Program} {w : World} {K : Frag} {mg : Str → Option Value} {base : Heap}
def spPlains : Sp := fun vs H Q _ => ∃ (a : Addr) (n : Nat) (most : Int), vs = [.ref a, .int most] ∧ PurseAt H a n ∧ n ≤ 700000000000 ∧ 1 ≤ most ∧ most ≤ 3 ∧
  ∀ (L : Addr) (zs : List Str) (H' : Hp), Plains zs → (zs.length : Int) ≤ most → KeepBut a H H' → H L = none → H' L = some (.lst (zs.map V.str)) → PurseAt H' a (n + 60) → Q (.ref L) H'
/-- what the draws stand upon -/
structure TDs (K : Frag) (mg : Str → Option Value) (fd_ fm fw fws fo : Addr) (fdd fdm fdw fdws fdo : FuncData) : Prop where
  TD : Top K mg "_law_draw" sLDraw ["purse", "many"] fd_ fdd
  TM : Top K mg "_law_mixed" sLMixed ["seed", "spin", "at"] fm fdm
  TW : Top K mg "_law_word" sLWord ["purse"] fw fdw
  TWs : Top K mg "_law_words" sLWords pLWords fws fdws
  TO : Top K mg "_law_one_of" sLOneOf ["purse", "some"] fo fdo
  B : Blt mg
theorem ok_plains {f fd_ fm fw fws fo : Addr} {fd fdd fdm fdw fdws fdo : FuncData} (T : Top K mg "_law_plains" sLPlains pLPlains f fd) (U : TDs K mg fd_ fm fw fws fo fdd fdm fdw fdws fdo) : FnOk P w K mg base CX0 5 f fd pLPlains spPlains := by
  have B := U.B
  have TD := U.TD
  have TO := U.TO
  have TWs := U.TWs
  have GD : FnOk P w K mg base CX0 2 fd_ fdd ["purse", "many"] spDraw := ok_draw U.TD U.TM U.B
  have GO : FnOk P w K mg base CX0 3 fo fdo ["purse", "some"] spOneOf := ok_oneOf U.TO U.TD U.TM U.B
  have GW : FnOk P w K mg base CX0 4 fws fdws pLWords spWords := ok_words U.TWs U.TW U.TD U.TM U.B
  refine T.F.ok scLPlains (fun vs H Q E h => ?_) (fun cdv A outer s H vs Q E hr h => ?_)
  · obtain ⟨_, _, _, rfl, _⟩ := h
    rfl
  · obtain ⟨a, n, most, rfl, hp, hn, hm1, hm2, k⟩ := h
    have hr2 : Room 2 _ := hr.mono (by decide)
    have hr3 : Room 3 _ := hr.mono (by decide)
    refine ⟨_, (pss_cons (ps_if (pt_cmpR op_eq (pe_call GD hr2 rfl TD.g TD.F.kp TD.b .nil pass0 (pa_cons (pv 0) (pa_cons pe_int pa_nil))) pe_int (nomark _))
        (pss_one (ps_ret (pe_slice sl_list (pe_call GO hr3 rfl TO.g TO.F.kp TO.b .nil pass0 (pa_cons (pv 0) (pa_cons (pe_lst (pa_cons (pe_lst (pa_cons pe_str (pa_cons pe_str (pa_cons pe_str pa_nil)))) (pa_cons (pe_lst (pa_cons pe_str (pa_cons pe_str (pa_cons pe_str pa_nil)))) (pa_cons (pe_lst (pa_cons pe_str (pa_cons pe_str (pa_cons pe_str pa_nil)))) (pa_cons (pe_lst (pa_cons pe_str (pa_cons pe_str (pa_cons pe_str pa_nil)))) pa_nil))))) pa_nil))) po_none (po_some (pv 1))))) pss_nil)
      (pss_one (ps_ret (pe_callB cr_sortedS (by rfl) B.sorted (by decide +kernel) (pa_cons (pe_call GW hr rfl TWs.g TWs.F.kp TWs.b .nil pass0 (pa_cons (pv 0) (pa_cons (pe_op op_add pe_int (pe_call GD hr2 rfl TD.g TD.F.kp TD.b .nil pass0 (pa_cons (pv 0) (pa_cons (pv 1) pa_nil)))) pa_nil))) pa_nil))))), ?_⟩
    refine ⟨_, rfl, a, n, 8, rfl, hp, by omega, by decide, by decide, fun d H1 c0 c1 off1 hp1 => ⟨rfl, _, rfl, ite2 (fun _ => ?_) (fun _ => ?_)⟩⟩
    · have l3 : 3 ≤ sizeLine := by rw [sizeLine_eq]; omega
      have l4 : 4 ≤ sizeLine := by rw [sizeLine_eq]; omega
      have kb1 : KeepBut a H H1 := .of_off off1
      refine ⟨_, rfl, l3, fun p1 n1 => ⟨l3, fun p2 n2 => ⟨l3, fun p3 n3 => ⟨l3, fun p4 n4 => ⟨l4, fun p5 n5 => ?_⟩⟩⟩⟩⟩
      have q1 := hp1.upd (o := .lst [.str "cut", .str "is", .str "then"]) (hp1.ne n1)
      have q2 := q1.upd (o := .lst [.str "athens", .str "over", .str "then"]) (q1.ne n2)
      have q3 := q2.upd (o := .lst [.str "end", .str "over", .str "under"]) (q2.ne n3)
      have q4 := q3.upd (o := .lst [.str "back", .str "is", .str "on"]) (q3.ne n4)
      have q5 := q4.upd (o := .lst [.ref p1, .ref p2, .ref p3, .ref p4]) (q4.ne n5)
      have s2 := same_upd (o := .lst [.str "athens", .str "over", .str "then"]) n2
      have s3 := same_upd (o := .lst [.str "end", .str "over", .str "under"]) n3
      have s4 := same_upd (o := .lst [.str "back", .str "is", .str "on"]) n4
      have s5 := same_upd (o := .lst [.ref p1, .ref p2, .ref p3, .ref p4]) n5
      have sa := (((same_upd (o := .lst [.str "cut", .str "is", .str "then"]) n1).trans s2).trans s3).trans (s4.trans s5)
      refine ⟨a, p5, n + 1, _, rfl, q5, by omega, (q4.ne n5).symm, upd_same, by show 1 ≤ 4; omega, by show 4 < 1048576; omega, fun i x H7 hx off7 hp7 => ?_⟩
      have kb7 : KeepBut a H H7 := (kb1.trans (.of_same sa)).trans (.of_off off7)
      have fin : ∀ (pi : Addr) (zs : List Str), zs ∈ odds → pi ≠ a → H7 pi = some (.lst (zs.map V.str)) → x = .ref pi →
          tPart (tVar 1) [some (.ref a), some (.int most)] H7 fun u H3 => rSlL K x none u H3 Q := by
        rintro pi zs hz npa e rfl
        refine ⟨_, rfl, most, rfl, pi, _, rfl, SqL.of e, fun q nq => ?_⟩
        obtain ⟨m, rfl⟩ := Int.eq_ofNat_of_zero_le (show 0 ≤ most by omega)
        have hm : m = 1 ∨ m = 2 ∨ m = 3 := by omega
        have l3 : zs.length = 3 := by
          simp [odds] at hz
          rcases hz with rfl | rfl | rfl | rfl <;> rfl
        have ec : cutV (zs.map V.str) none (some (m : Int)) = (zs.take m).map V.str := by
          unfold cutV
          rw [HT.sIx_nat, HT.sIx_none, List.length_map, l3, List.map_take]
          have : min m 3 - 0 = m := by omega
          rw [this]
          rfl
        rw [ec]
        have hpl : Plains (zs.take m) := by
          have q := List.all_eq_true.mp odds_ok zs hz
          rw [List.all_eq_true] at q
          exact plainsB_ok (q m (by rcases hm with rfl | rfl | rfl <;> simp))
        exact k q _ _ hpl (by rw [List.length_take]; omega) (kb7.upd_new (kb7.free nq (hp7.ne nq).symm)) (kb7.free nq (hp7.ne nq).symm) upd_same ((hp7.upd (hp7.ne nq)).mono (by omega))
      have na1 := (hp1.ne n1).symm
      have na2 := (q1.ne n2).symm
      have na3 := (q2.ne n3).symm
      have na4 := (q3.ne n4).symm
      match i, hx with
      | 0, hx =>
        refine fin p1 ["cut", "is", "then"] (by simp [odds]) na1 ?_ (Option.some.inj hx).symm
        rw [off7 p1 na1]
        exact ((s2.trans s3).trans (s4.trans s5)) _ _ upd_same
      | 1, hx =>
        refine fin p2 ["athens", "over", "then"] (by simp [odds]) na2 ?_ (Option.some.inj hx).symm
        rw [off7 p2 na2]
        exact (s3.trans (s4.trans s5)) _ _ upd_same
      | 2, hx =>
        refine fin p3 ["end", "over", "under"] (by simp [odds]) na3 ?_ (Option.some.inj hx).symm
        rw [off7 p3 na3]
        exact (s4.trans s5) _ _ upd_same
      | 3, hx =>
        refine fin p4 ["back", "is", "on"] (by simp [odds]) na4 ?_ (Option.some.inj hx).symm
        rw [off7 p4 na4]
        exact s5 _ _ upd_same
      | i + 4, hx => exact absurd hx (by simp)
    · have kb1 : KeepBut a H H1 := .of_off off1
      refine ⟨_, rfl, _, rfl, _, rfl, a, n + 1, most, rfl, hp1, by omega, hm1, by omega, fun d2 H2 e0 e1 off2 hp2 => ?_⟩
      refine ⟨_, _, rfl, rfl, a, n + 2, _, rfl, hp2, by omega, by omega, by omega, fun L zs H3 hw nd hl kb3 nL eL hp3 => ?_⟩
      refine ⟨L, zs, rfl, SqL.of eL, by omega, fun ys p pm so hpn => ?_⟩
      have kb : KeepBut a H H3 := (kb1.trans (.of_off off2)).trans kb3
      refine k p ys _ ⟨so, pm.nodup_iff.mpr nd, fun z hz => hw z (pm.mem_iff.mp hz), by rw [pm.length_eq]; omega, by rw [pm.length_eq]; omega⟩ (by rw [pm.length_eq]; omega) ?_ (kb.free hpn (hp3.ne hpn).symm) upd_same ((hp3.upd (hp3.ne hpn)).mono (by omega))
      exact kb.upd_new (kb.free hpn (hp3.ne hpn).symm)
end
end U6

namespace U6
open PySem PySem.Spec PyProof.Rows L2 KT
open PySem.W (Frag)
def Ty.words : Ty → List Str
  | .w z => [z]
  | .n _ a b => a.words ++ b.words
theorem TK.of_keepBut {a : Addr} {n : Nat} {H H' : Hp} (k : KeepBut a H H') (p : PurseAt H a n) : TK H H' := fun q xs e => k q _ e fun z => by
  obtain ⟨_, _, _, _, e', _⟩ := p
  rw [z, e'] at e
  cases e
section
variable {P : Program} {w : World} {K : Frag} {mg : Str → Option Value} {base : Heap}
def spKind (d : Nat) : Sp := fun vs H Q _ => ∃ (a L : Addr) (n m : Nat) (zs : List Str), vs = [.ref a, .ref L, .int m] ∧ PurseAt H a n ∧ n + 3 * m ≤ 600000000000 ∧ L ≠ a ∧ H L = some (.lst (zs.map V.str)) ∧ Plains zs ∧ m ≤ d ∧
  ∀ (x : V) (t : Ty) (H' : Hp), TyAt H' x t → t.signs = m → (∀ z ∈ t.words, z ∈ zs) → KeepBut a H H' → PurseAt H' a (n + 3 * m + 1) → Q x H'

theorem ok_kind {f fd_ fm fw fws fo : Addr} {fd fdd fdm fdw fdws fdo : FuncData} (T : Top K mg "_law_kind" sLKind pLKind f fd) (U : TDs K mg fd_ fm fw fws fo fdd fdm fdw fdws fdo) : ∀ d : Nat, d ≤ 30 → FnOk P w K mg base CX0 (4 + d) f fd pLKind (spKind d)
  | 0, _ => by
    have B := U.B
    have TO := U.TO
    have GO : FnOk P w K mg base CX0 3 fo fdo ["purse", "some"] spOneOf := ok_oneOf U.TO U.TD U.TM U.B
    refine T.F.ok scLKind (fun vs H Q E h => ?_) (fun cdv A outer s H vs Q E hr h => ?_)
    · obtain ⟨_, _, _, _, _, rfl, _⟩ := h
      rfl
    · obtain ⟨a, L, n, m, zs, rfl, hp, hn, nLa, eL, hz, hm, k⟩ := h
      obtain rfl : m = 0 := by omega
      refine ⟨_, pss_cons (ps_if (pt_cmpR op_eq (pv 2) pe_int (nomark _)) (pss_one (ps_ret (pe_call GO hr rfl TO.g TO.F.kp TO.b .nil pass0 (pa_cons (pv 0) (pa_cons (pv 1) pa_nil))))) pss_nil) pss_never, ?_⟩
      have l1 := hz.l1
      have l3 := hz.l3
      refine ⟨_, rfl, rfl, true, rfl, iteT ⟨_, rfl, _, rfl, a, L, n, _, rfl, hp, by omega, nLa, eL, by rw [List.length_map]; exact hz.l1, by rw [List.length_map]; omega, fun i x H' hx off hp' => ?_⟩⟩
      rw [List.getElem?_map] at hx
      obtain ⟨z, hzi, rfl⟩ := Option.map_eq_some_iff.mp hx
      exact k _ (.w z) H' (.w (hz.w z (List.mem_of_getElem? hzi))) rfl (fun y hy => by rw [List.mem_singleton.mp hy]; exact List.mem_of_getElem? hzi) (.of_off off) hp'
  | d + 1, hd => by
    have B := U.B
    have TO := U.TO
    have TD := U.TD
    have GD : FnOk P w K mg base CX0 2 fd_ fdd ["purse", "many"] spDraw := ok_draw U.TD U.TM U.B
    have GO : FnOk P w K mg base CX0 3 fo fdo ["purse", "some"] spOneOf := ok_oneOf U.TO U.TD U.TM U.B
    have GK : FnOk P w K mg base CX0 (4 + d) f fd pLKind (spKind d) := ok_kind T U d (by omega)
    refine T.F.ok (k := 4 + d) scLKind (fun vs H Q E h => ?_) (fun cdv A outer s H vs Q E hr h => ?_)
    · obtain ⟨_, _, _, _, _, rfl, _⟩ := h
      rfl
    · obtain ⟨a, L, n, m, zs, rfl, hp, hn, nLa, eL, hz, hm, k⟩ := h
      have hr3 : Room 3 _ := hr.mono (by omega)
      have hr2 : Room 2 _ := hr.mono (by omega)
      refine ⟨_, (pss_cons (ps_if (pt_cmpR op_eq (pv 2) pe_int (nomark _)) (pss_one (ps_ret (pe_call GO hr3 rfl TO.g TO.F.kp TO.b .nil pass0 (pa_cons (pv 0) (pa_cons (pv 1) pa_nil))))) pss_nil)
      (pss_cons (ps_set (i := 3) scLKind.nd rfl (Or.inl rfl) (pe_call GD hr2 rfl TD.g TD.F.kp TD.b .nil pass0 (pa_cons (pv 0) (pa_cons (pv 2) pa_nil))))
      (pss_cons (ps_par (i := 4) (j := 5) rfl scLKind.nd rfl rfl (by decide) rfl rfl (pa_cons (pe_call GK hr rfl T.g T.F.kp T.b .nil pass0 (pa_cons (pv 0) (pa_cons (pv 1) (pa_cons (pv 3) pa_nil)))) (pa_cons (pe_call GK hr rfl T.g T.F.kp T.b .nil pass0 (pa_cons (pv 0) (pa_cons (pv 1) (pa_cons (pe_op op_sub (pe_op op_sub (pv 2) pe_int) (pv 3)) pa_nil)))) pa_nil)) (by rfl))
      (pss_one (ps_ret (pe_tup (pa_cons (pe_call GO hr3 rfl TO.g TO.F.kp TO.b .nil pass0 (pa_cons (pv 0) (pa_cons (pe_lst (pa_cons pe_str (pa_cons pe_str (pa_cons pe_str (pa_cons pe_str (pa_cons pe_str pa_nil)))))) pa_nil))) (pa_cons (pv 4) (pa_cons (pv 5) pa_nil))))))))), ?_⟩
      have l1 := hz.l1
      have l3 := hz.l3
      refine ⟨_, rfl, rfl, _, rfl, ite2 (fun c => ?_) (fun c => ?_)⟩
      · have e0 : (V.int (m : Int)) = V.int 0 := of_decide_eq_true c
        obtain rfl : m = 0 := by
          injection e0 with e0
          omega
        refine ⟨_, rfl, _, rfl, a, L, n, _, rfl, hp, by omega, nLa, eL, by rw [List.length_map]; exact hz.l1, by rw [List.length_map]; omega, fun i x H' hx off hp' => ?_⟩
        rw [List.getElem?_map] at hx
        obtain ⟨z, hzi, rfl⟩ := Option.map_eq_some_iff.mp hx
        exact k _ (.w z) H' (.w (hz.w z (List.mem_of_getElem? hzi))) rfl (fun y hy => by rw [List.mem_singleton.mp hy]; exact List.mem_of_getElem? hzi) (.of_off off) hp'
      · have hm0 : m ≠ 0 := fun e => c (by rw [e]; rfl)
        refine ⟨_, rfl, _, rfl, a, n, m, rfl, hp, by omega, by omega, by omega, fun d0 H1 c0 c1 off1 hp1 => ?_⟩
        obtain ⟨j, rfl⟩ := Int.eq_ofNat_of_zero_le c0
        have hj : j < m := by omega
        have kb1 : KeepBut a H H1 := .of_off off1
        refine ⟨_, rfl, _, rfl, _, rfl, a, L, n + 1, j, zs, rfl, hp1, by omega, nLa, by rw [off1 L nLa]; exact eL, hz, by omega, fun x1 t1 H2 ht1 hs1 hw1 kb2 hp2 => ?_⟩
        refine ⟨_, rfl, _, rfl, _, rfl, _, _, rfl, rfl, _, rfl, _, _, rfl, rfl, ?_⟩
        have em : (m : Int) - 1 - (j : Int) = ((m - 1 - j : Nat) : Int) := by omega
        refine ⟨a, L, n + 1 + 3 * j + 1, m - 1 - j, zs, congrArg (fun e => [V.ref a, V.ref L, V.int e]) em, hp2, by omega, nLa, kb2 _ _ (by rw [off1 L nLa]; exact eL) nLa, hz, by omega, fun x2 t2 H3 ht2 hs2 hw2 kb3 hp3 => ?_⟩
        refine ⟨_, _, rfl, ?_⟩
        have l5 : 5 ≤ sizeLine := by rw [sizeLine_eq]; omega
        have l3' : 3 ≤ sizeLine := by rw [sizeLine_eq]; omega
        refine ⟨_, rfl, l5, fun p np => ⟨a, p, n + 1 + 3 * j + 1 + 3 * (m - 1 - j) + 1, _, rfl, hp3.upd (hp3.ne np), by omega, (hp3.ne np).symm, upd_same, by show 1 ≤ 5; omega, by show 5 < 1048576; omega, fun i x H4 hx off4 hp4 => ?_⟩⟩
        have hg : ∃ g : Sg, x = .str g.str := by
          match i, hx with
          | 0, hx => exact ⟨.ov, (Option.some.inj hx).symm⟩
          | 1, hx => exact ⟨.ov, (Option.some.inj hx).symm⟩
          | 2, hx => exact ⟨.th, (Option.some.inj hx).symm⟩
          | 3, hx => exact ⟨.un, (Option.some.inj hx).symm⟩
          | 4, hx => exact ⟨.un, (Option.some.inj hx).symm⟩
          | i + 5, hx => exact absurd hx (by simp)
        obtain ⟨g, rfl⟩ := hg
        have kb4 : KeepBut a H3 H4 := (KeepBut.of_same (same_upd np)).trans (.of_off off4)
        have kbA : KeepBut a H H4 := ((kb1.trans kb2).trans kb3).trans kb4
        refine ⟨_, rfl, _, rfl, l3', fun q nq => ?_⟩
        have tk4 : TK H3 (upd H4 q (.tup [.str g.str, x1, x2])) := (TK.of_keepBut kb4 hp3).trans (TK.upd_new nq)
        have tk3 : TK H2 (upd H4 q (.tup [.str g.str, x1, x2])) := (TK.of_keepBut kb3 hp2).trans tk4
        refine k _ (.n g t1 t2) _ (.n upd_same (ht1.mono tk3) (ht2.mono tk4)) ?_ ?_ (kbA.upd_new (kbA.free nq (hp4.ne nq).symm)) ((hp4.upd (hp4.ne nq)).mono (by omega))
        · show 1 + t1.signs + t2.signs = m
          omega
        · intro z hz'
          exact (List.mem_append.mp hz').elim (hw1 z) (hw2 z)
end
end U6

namespace U6
open PySem PySem.Spec PyProof.Rows L2 KT
open PySem.W (Frag)
/-! ### data: texts, numbers, None, tuples -/
/-- a text that may be met -/
def TxtOk (z : Str) : Prop := PyData.strOk z = true ∧ z.length ≤ 100
inductive D
  | s (z : Str)
  | i (n : Int)
  | o
  | t (l : List D)
mutual
inductive DAt (H : Hp) : V → D → Prop
  | s {z : Str} : TxtOk z → DAt H (.str z) (.s z)
  | i (n : Int) : DAt H (.int n) (.i n)
  | o : DAt H .non .o
  | t {p : Addr} {xs : List V} {ds : List D} : H p = some (.tup xs) → DsAt H xs ds → DAt H (.ref p) (.t ds)
inductive DsAt (H : Hp) : List V → List D → Prop
  | nil : DsAt H [] []
  | cons {v : V} {vs : List V} {d : D} {ds : List D} : DAt H v d → DsAt H vs ds → DsAt H (v :: vs) (d :: ds)
end
mutual
theorem DAt.mono {H H' : Hp} (k : TK H H') : ∀ {d : D} {v : V}, DAt H v d → DAt H' v d
  | .s _, _, .s h => .s h
  | .i _, _, .i n => .i n
  | .o, _, .o => .o
  | .t _, _, .t e h => .t (k _ _ e) (DsAt.mono k h)
theorem DsAt.mono {H H' : Hp} (k : TK H H') : ∀ {ds : List D} {vs : List V}, DsAt H vs ds → DsAt H' vs ds
  | [], _, .nil => .nil
  | _ :: _, _, .cons h r => .cons (DAt.mono k h) (DsAt.mono k r)
end
theorem DsAt.length {H : Hp} : ∀ {ds : List D} {vs : List V}, DsAt H vs ds → vs.length = ds.length
  | _, _, .nil => rfl
  | _, _, .cons _ r => by rw [List.length_cons, List.length_cons, r.length]
theorem DsAt.append {H : Hp} : ∀ {ds es : List D} {vs us : List V}, DsAt H vs ds → DsAt H us es → DsAt H (vs ++ us) (ds ++ es)
  | _, _, _, _, .nil, h => h
  | _, _, _, _, .cons a r, h => .cons a (r.append h)
theorem DsAt.at_ {H : Hp} : ∀ {ds : List D} {vs : List V}, DsAt H vs ds → ∀ {i : Nat} {v : V}, vs[i]? = some v → ∃ d, ds[i]? = some d ∧ DAt H v d
  | _, _, .nil, i, v, e => by simp at e
  | _, _, .cons h r, 0, v, e => by
    obtain rfl := Option.some.inj (show some _ = some v from e)
    exact ⟨_, rfl, h⟩
  | _, _, .cons h r, i + 1, v, e => r.at_ (i := i) (by simpa using e)
mutual
def D.py : D → PyData
  | .s z => .str z
  | .i n => .int n
  | .o => .none
  | .t l => .tuple (pyAll l)
def pyAll : List D → List PyData
  | [] => []
  | d :: r => d.py :: pyAll r
end
mutual
def D.dep : D → Nat
  | .s _ => 0
  | .i _ => 0
  | .o => 0
  | .t l => depAll l + 1
def depAll : List D → Nat
  | [] => 0
  | d :: r => max d.dep (depAll r)
end
mutual
def D.size : D → Nat
  | .s _ => 1
  | .i _ => 1
  | .o => 1
  | .t l => sizeAll l + 1
def sizeAll : List D → Nat
  | [] => 0
  | d :: r => d.size + sizeAll r
end
mutual
theorem DAt.py {K : Frag} {H : Hp} : ∀ {d : D} {v : V}, DAt H v d → Dp K H v d.py ∧ d.py.canLay0 = true ∧ d.py.depth = d.dep
  | .s z, _, .s h => ⟨.str _, by simp only [D.py, PyData.canLay0]; exact h.1, by simp only [D.py, PyData.depth, D.dep]⟩
  | .i _, _, .i n => ⟨.int _, by simp only [D.py, PyData.canLay0], by simp only [D.py, PyData.depth, D.dep]⟩
  | .o, _, .o => ⟨.non, by simp only [D.py, PyData.canLay0], by simp only [D.py, PyData.depth, D.dep]⟩
  | .t l, _, .t e h => by
    obtain ⟨h1, h2, h3⟩ := DsAt.py (K := K) h
    exact ⟨.tup (SqT.of e) h1, by simp only [D.py, PyData.canLay0]; exact h2, by simp only [D.py, PyData.depth, D.dep, h3]⟩
theorem DsAt.py {K : Frag} {H : Hp} : ∀ {ds : List D} {vs : List V}, DsAt H vs ds → DpAll K H vs (pyAll ds) ∧ PyData.canLayAll0 (pyAll ds) = true ∧ PyData.depthAll (pyAll ds) = depAll ds
  | [], _, .nil => ⟨.nil, by simp only [pyAll, PyData.canLayAll0], by simp only [pyAll, PyData.depthAll, depAll]⟩
  | _ :: _, _, .cons h r => by
    obtain ⟨a1, a2, a3⟩ := DAt.py (K := K) h
    obtain ⟨b1, b2, b3⟩ := DsAt.py (K := K) r
    exact ⟨.cons a1 b1, by simp only [pyAll, PyData.canLayAll0, a2, b2, Bool.and_self], by simp only [pyAll, PyData.depthAll, depAll, a3, b3]⟩
end
theorem DAt.shaped {K : Frag} {H : Hp} {d : D} {v : V} (h : DAt H v d) (l : d.dep ≤ 64) : SeqAt.shaped d.py = true := by
  obtain ⟨_, h2, h3⟩ := DAt.py (K := K) h
  unfold SeqAt.shaped
  rw [h2, h3, Bool.true_and]
  exact decide_eq_true l
theorem D.size_pos (d : D) : 1 ≤ d.size := by cases d <;> simp [D.size]
/-! ### types as data -/
def Ty.d : Ty → D
  | .w z => .s z
  | .n g a b => .t [.s g.str, a.d, b.d]
theorem isW_ok {z : Str} (h : IsW z) : TxtOk z := by
  refine ⟨?_, by have := h.2.1; omega⟩
  unfold PyData.strOk
  simp only [List.all_eq_true, Array.all_eq_true_iff_forall_mem, decide_eq_true_eq]
  intro c hc
  have := h.2.2 c (by simpa using hc)
  omega
theorem TyAt.d {H : Hp} {v : V} {t : Ty} (h : TyAt H v t) : DAt H v t.d := by
  induction h with
  | w h => exact .s (isW_ok h)
  | @n p g x y a b e _ _ i j => exact .t e (.cons (.s (by cases g <;> exact ⟨by decide +kernel, by decide +kernel⟩)) (.cons i (.cons j .nil)))
def sgOf (z : Str) : Option Sg := if z = "over" then some .ov else if z = "then" then some .th else if z = "under" then some .un else none
theorem sgOf_some {z : Str} {g : Sg} (h : sgOf z = some g) : z = g.str := by
  unfold sgOf at h
  split at h
  · cases h; assumption
  · split at h
    · cases h; assumption
    · split at h
      · cases h; assumption
      · cases h
theorem sgOf_str (g : Sg) : sgOf g.str = some g := by cases g <;> decide +kernel
end U6

namespace U6
open PySem PySem.Spec PyProof.Rows L2 KT
open PySem.W (Frag)
theorem isWB_of {z : Str} (h : IsW z) : isWB z = true := by
  unfold isWB
  simp only [Bool.and_eq_true, decide_eq_true_eq, List.all_eq_true]
  exact ⟨⟨h.1, h.2.1⟩, h.2.2⟩
def mkTy (l : List D) (r : List (Option Ty)) : Option Ty := match l, r with
  | [.s g, _, _], [_, some a, some b] => (sgOf g).map fun g => .n g a b
  | _, _ => none
mutual
def D.ty : D → Option Ty
  | .s z => if isWB z = true then some (.w z) else none
  | .i _ => none
  | .o => none
  | .t l => mkTy l (tyAll l)
def tyAll : List D → List (Option Ty)
  | [] => []
  | d :: r => d.ty :: tyAll r
end
def Ty.wok : Ty → Prop
  | .w z => IsW z
  | .n _ a b => a.wok ∧ b.wok
theorem TyAt.wok {H : Hp} {v : V} {t : Ty} (h : TyAt H v t) : t.wok := by
  induction h with
  | w h => exact h
  | n _ _ _ i j => exact ⟨i, j⟩
theorem Ty.ty_d (t : Ty) (h : t.wok) : t.d.ty = some t := by
  induction t with
  | w z =>
    simp only [Ty.d, D.ty]
    rw [if_pos (isWB_of h)]
  | n g a b i j => simp only [Ty.d, D.ty, tyAll, mkTy, i h.1, j h.2, sgOf_str, Option.map_some]
theorem mkTy_inv {l : List D} {r : List (Option Ty)} {t : Ty} (h : mkTy l r = some t) : ∃ g x y a b, l = [.s (Sg.str g), x, y] ∧ (∃ o, r = [o, some a, some b]) ∧ t = .n g a b := by
  unfold mkTy at h
  split at h
  · obtain ⟨g, h1, h2⟩ := Option.map_eq_some_iff.mp h
    exact ⟨g, _, _, _, _, by rw [sgOf_some h1], ⟨_, rfl⟩, h2.symm⟩
  · cases h
mutual
/-- a datum that is a type lies in the heap as that type -/
theorem DAt.ty {H : Hp} : ∀ {d : D} {v : V} {t : Ty}, DAt H v d → d.ty = some t → TyAt H v t
  | .s z, _, t, .s _, h => by
    simp only [D.ty] at h
    split at h
    · rename_i q
      cases h
      exact .w (isWB_ok q)
    · cases h
  | .i _, _, t, .i _, h => by simp only [D.ty] at h; cases h
  | .o, _, t, .o, h => by simp only [D.ty] at h; cases h
  | .t l, _, t, .t e hs, h => by
    simp only [D.ty] at h
    obtain ⟨g, x, y, a, b, rfl, ⟨o, hr⟩, rfl⟩ := mkTy_inv h
    simp only [tyAll] at hr
    have q := DsAt.ty hs
    cases hs with
    | cons h1 hs => cases hs with
      | cons h2 hs => cases hs with
        | cons h3 hs => cases hs with
          | nil =>
            cases h1
            injection hr with _ hr
            injection hr with e1 hr
            injection hr with e2 _
            exact .n e (q 1 _ _ _ rfl rfl e1) (q 2 _ _ _ rfl rfl e2)
theorem DsAt.ty {H : Hp} : ∀ {ds : List D} {vs : List V}, DsAt H vs ds → ∀ (j : Nat) (v : V) (d : D) (t : Ty), vs[j]? = some v → ds[j]? = some d → d.ty = some t → TyAt H v t
  | [], _, .nil, j, v, d, t, e, _, _ => by simp at e
  | _ :: _, _, .cons h r, 0, v, d, t, e1, e2, e3 => by
    obtain rfl := Option.some.inj (show some _ = some v from e1)
    obtain rfl := Option.some.inj (show some _ = some d from e2)
    exact DAt.ty h e3
  | _ :: _, _, .cons h r, j + 1, v, d, t, e1, e2, e3 => DsAt.ty r j v d t (by simpa using e1) (by simpa using e2) e3
end
/-! ### what a derivation tells -/
abbrev Told := List Ty × Ty
def madeO : Told → Option Told
  | (row, goal) => if row.length < 2 then none else some (row.dropLast, .n .ov goal (row.getLastD (.w "")))
def madeU : Told → Option Told
  | (a :: b :: r, goal) => some (b :: r, .n .un a goal)
  | _ => none
def thenM (x y : Told) : Told := (x.1 ++ y.1, .n .th x.2 y.2)
def usedAt (nm : Str) (p : Int) (x y : Told) : Option Told :=
  if 0 ≤ p then
    match y.1[p.toNat]? with
    | none => none
    | some k =>
      if nm = "over used" then some (y.1.take p.toNat ++ [.n .ov k x.2] ++ x.1 ++ y.1.drop (p.toNat + 1), y.2)
      else if nm = "under used" then some (y.1.take p.toNat ++ x.1 ++ [.n .un x.2 k] ++ y.1.drop (p.toNat + 1), y.2)
      else if k = x.2 then some (y.1.take p.toNat ++ x.1 ++ y.1.drop (p.toNat + 1), y.2) else none
  else none
def thenU (p : Int) (y : Told) : Option Told :=
  if 0 ≤ p then
    match y.1[p.toNat]?, y.1[p.toNat + 1]? with
    | some a, some b => some (y.1.take p.toNat ++ [.n .th a b] ++ y.1.drop (p.toNat + 2), y.2)
    | _, _ => none
  else none
def both (f : Told → Told → Option Told) : Option Told → Option Told → Option Told
  | some x, some y => f x y
  | _, _ => none
def placed (nm : Str) : Bool := decide (nm = "over used") || decide (nm = "under used") || decide (nm = "cut")
def tellOf (l : List D) (r : List (Option Told)) : Option Told := match l, r with
  | [.s nm, x], [_, rx] => if nm = "is" then x.ty.map fun k => ([k], k) else if nm = "over made" then rx.bind madeO else if nm = "under made" then rx.bind madeU else none
  | [.s nm, x, _], [_, rx, ry] => if nm = "then made" then both (fun a b => some (thenM a b)) rx ry else if nm = "then used" then (match x with | .i p => ry.bind (thenU p) | _ => none) else none
  | [.s nm, .i p, _, _], [_, _, rx, ry] => if placed nm = true then both (usedAt nm p) rx ry else none
  | _, _ => none
mutual
def D.tl : D → Option Told
  | .s _ => none
  | .i _ => none
  | .o => none
  | .t l => tellOf l (tlAll l)
def tlAll : List D → List (Option Told)
  | [] => []
  | d :: r => d.tl :: tlAll r
end
/-! ### the form of a knot -/
def D.formed : D → Bool
  | .t [.s nm, x] => if nm = "is" then x.ty.isSome else decide (nm = "over made") || decide (nm = "under made")
  | .t [.s nm, x, _] => decide (nm = "then made") || (decide (nm = "then used") && match x with | .i p => decide (0 ≤ p) | _ => false)
  | .t [.s nm, x, _, _] => placed nm && match x with | .i p => decide (0 ≤ p) | _ => false
  | _ => false
def D.parts : D → List D
  | .t [.s nm, x] => if nm = "is" then [] else [x]
  | .t [.s nm, x, y] => if nm = "then used" then [y] else [x, y]
  | .t [_, _, x, y] => [x, y]
  | _ => []
def allKOf (l : List D) (r : List Bool) : Bool := (D.t l).formed && match l, r with
  | [.s nm, _], [_, x] => if nm = "is" then true else x
  | [.s nm, _, _], [_, x, y] => if nm = "then used" then y else x && y
  | [_, _, _, _], [_, _, x, y] => x && y
  | _, _ => true
mutual
/-- it and all parts in it have a knot's form -/
def D.allK : D → Bool
  | .s _ => false
  | .i _ => false
  | .o => false
  | .t l => allKOf l (allKs l)
def allKs : List D → List Bool
  | [] => []
  | d :: r => d.allK :: allKs r
end
def nodesOf (l : List D) (r : List (List D)) : List D := D.t l :: match l, r with
  | [.s nm, _], [_, x] => if nm = "is" then [] else x
  | [.s nm, _, _], [_, x, y] => if nm = "then used" then y else y ++ x
  | [_, _, _, _], [_, _, x, y] => y ++ x
  | _, _ => []
mutual
def D.nodes : D → List D
  | .s z => [.s z]
  | .i n => [.i n]
  | .o => [.o]
  | .t l => nodesOf l (nodesLs l)
def nodesLs : List D → List (List D)
  | [] => []
  | d :: r => d.nodes :: nodesLs r
end
end U6

/-! Sets of texts: set(a list of texts), sorted of it. -/
namespace KT
open PySem PySem.Spec PyProof.Rows L2
theorem nodup_len : ∀ (l D : List Str), l.Nodup → (∀ x ∈ l, x ∈ D) → l.length ≤ D.length
  | [], _, _, _ => Nat.zero_le _
  | x :: l, D, h, s => by
    obtain ⟨h1, h2⟩ := List.nodup_cons.mp h
    have hx := s x List.mem_cons_self
    have q := nodup_len l (D.erase x) h2 fun y hy => (List.mem_erase_of_ne (fun e => h1 (by rw [← e]; exact hy))).mpr (s y (List.mem_cons_of_mem _ hy))
    rw [List.length_erase_of_mem hx] at q
    have : 0 < D.length := List.length_pos_of_mem hx
    rw [List.length_cons]
    omega
def keyS (e : Int × Value) : Str := match e.2 with
  | .str k _ => k
  | _ => Str.empty
/-- the texts of ks (some of them told twice) are in the set at a -/
def SetG (P : Program) (w : World) (h : Heap) (a : Addr) (ks : List Str) : Prop :=
  ∃ o es ep t, h.get? a = some o ∧ o.ExactSet ∧ o.data = .set es ep t ∧ (∀ e ∈ es.toList, ∃ k tk, e.2 = Value.str k tk ∧ e.1 = (PySem.strKind P w).hash k) ∧ (es.toList.map keyS).Nodup ∧ (∀ k, k ∈ es.toList.map keyS ↔ k ∈ ks) ∧
    es.size < scanBound ∧ t.fits es.size = true ∧ L2.Ris t.place.toList ∧ (w.params.followText "set-order" = true ∨ t.led = true)
section
variable {P : Program} {w : World} {h h' : Heap} {a : Addr} {ks : List Str}
theorem SetG.at_ (R : SetG P w h a ks) (k : ∀ o, h.get? a = some o → h'.get? a = some o) : SetG P w h' a ks := by
  obtain ⟨o, es, ep, t, ho, r⟩ := R
  exact ⟨o, es, ep, t, k o ho, r⟩
theorem els_of {l : List (Int × Value)} (g : ∀ e ∈ l, ∃ k tk, e.2 = Value.str k tk ∧ e.1 = (PySem.strKind P w).hash k) : ElemsOf (PySem.strKind P w) l := fun e he => by
  obtain ⟨k, tk, h1, h2⟩ := g e he
  exact ⟨⟨k, by rw [h1]; exact strKind_is P w k tk, h2⟩, by rw [h1] <;> rfl⟩
theorem is_key {e : Int × Value} (g : ∃ k tk, e.2 = Value.str k tk ∧ e.1 = (PySem.strKind P w).hash k) (k : Str) : (PySem.strKind P w).is k e.2 = true ↔ keyS e = k := by
  obtain ⟨k0, tk, h1, _⟩ := g
  have hk : (PySem.strKind P w).is k0 e.2 = true := by rw [h1]; exact strKind_is P w k0 tk
  have e0 : keyS e = k0 := by unfold keyS; rw [h1]
  rw [e0]
  constructor
  · intro z
    exact (PySem.strKind P w).inj _ _ _ hk z
  · intro z
    rw [← z]
    exact hk
end
section
variable {P : Program} {w : World} {A : Around} {E : Value → Shared → Prop} {s : Shared} {a : Addr} {ks : List Str}
/-- the end of an addition: the new table is stored, and laid anew where it is too full -/
theorem setG_tail {g : Bool → Sem Unit} (hg : ∀ (b : Bool) (s₁ : Shared) (Q' : Unit → Shared → Prop), Q' () s₁ → wpAny (model P w) A (g b) Q' E s₁)
    {o : Obj} {es : Array (Int × Value)} {ep : Nat} {t : SetTable} (ho : s.heap.get? a = some o) (hex : o.ExactSet) (hd : o.data = .set es ep t)
    {es1 : Array (Int × Value)} {t2 : SetTable} {ks' : List Str} (new : ∀ h' o' es2 ep2 t3, h'.get? a = some o' → o'.ExactSet → o'.data = .set es2 ep2 t3 → es2.toList.Perm es1.toList → t3.fits es2.size = true → L2.Ris t3.place.toList → (w.params.followText "set-order" = true ∨ t3.led = true) → SetG P w h' a ks')
    (hb1 : es1.size < scanBound) (hf2 : t2.fits es1.size = true) (hr : L2.Ris t2.place.toList) (hl : w.params.followText "set-order" = true ∨ t2.led = true) {wasDummy : Bool} {R : Option Bool → Shared → Prop}
    (hR : ∀ h', Heap.SameBut a s.heap h' → SetG P w h' a ks' → R (some true) { s with heap := h' }) :
    wpAny (model P w) A (do
        storeSet a es1 t2
        if (!wasDummy && t2.tooFull) = true then do
            g (relayAll t2 es1 (SetTable.grown es1.size)).2.2
            storeSet a (relayAll t2 es1 (SetTable.grown es1.size)).1 (relayAll t2 es1 (SetTable.grown es1.size)).2.1
            pure (some true)
          else pure (some true)) R E s := by
  refine wpAny_bind (wpAny_storeSet_of ho hd ?_ (fits_of_scanBound hb1))
  have ho1 := store_at (es' := es1) (t' := t2) ho hd
  have sb1 := Heap.SameBut.update s.heap a (Obj.putSet es1 t2)
  split
  · have pm := relayAll_perm t2 es1 (SetTable.grown es1.size)
    have hf3 := relayAll_fits t2 es1 (SetTable.grown es1.size)
    have hr3 := relayAll_ris t2 es1 (SetTable.grown es1.size)
    have hl3 := relayAll_led t2 es1 (SetTable.grown es1.size)
    generalize relayAll t2 es1 (SetTable.grown es1.size) = Z at pm hf3 hr3 hl3 ⊢
    obtain ⟨es2, t3, gave⟩ := Z
    dsimp only at pm hf3 hr3 hl3 ⊢
    have hsz : es2.size = es1.size := by rw [← Array.length_toList, pm.length_eq, Array.length_toList]
    refine wpAny_bind (hg _ _ _ ?_)
    refine wpAny_bind (wpAny_storeSet_of ho1 rfl ?_ (fits_of_scanBound (by rw [hsz]; exact hb1)))
    have ho2 := store_at (es' := es2) (t' := t3) ho1 rfl
    exact wpAny_pure (hR _ (sb1.trans (Heap.SameBut.update _ a _)) (new _ _ es2 _ t3 ho2 hex rfl pm hf3 hr3 (hl.imp id fun z => by rw [hl3]; exact z)))
  · exact wpAny_pure (hR _ sb1 (new _ _ es1 _ t2 ho1 hex rfl (.refl _) hf2 hr hl))
theorem setG_add {k : Str} {tk : Tok} {Q : Bool → Shared → Prop} (R : SetG P w s.heap a ks) (room : ks.length + 2 < scanBound)
    (hQ : ∀ h' b, Heap.SameBut a s.heap h' → SetG P w h' a (ks ++ [k]) → Q b { s with heap := h' }) :
    wpAny (model P w) A (setAddHashed a (.str k tk) ((PySem.strKind P w).hash k)) Q E s := by
  obtain ⟨o, es, ep, t, ho, hex, hd, g, nd, hm, hb, hf, hr, hl⟩ := R
  have hkey : (PySem.strKind P w).is k (.str k tk) = true := strKind_is P w k tk
  have hsc : (Value.str k tk).scannable = true := rfl
  have hel : ElemsOf (PySem.strKind P w) es.toList := els_of g
  have hkm : k ∈ es.toList.map keyS ↔ ∃ e ∈ es.toList, (PySem.strKind P w).is k e.2 = true := by
    rw [List.mem_map]
    exact ⟨fun ⟨e, he, q⟩ => ⟨e, he, (is_key (g e he) k).2 q⟩, fun ⟨e, he, q⟩ => ⟨e, he, (is_key (g e he) k).1 q⟩⟩
  unfold setAddHashed setAddHashedIn
  refine wpAny_holding (wpAny_bind (wpAny_setState_of ho hd hf ?_))
  dsimp only
  rw [byScan_of hsc hb hel]
  simp only [↓reduceIte]
  unfold setAddByScan
  refine wpAny_bind ?_
  refine wpAny_bind (wpAny_rule ?_)
  refine wpAny_bind (wpAny_setScan_of hkey ho hd hf hel ?_)
  cases hfi : List.findIdx? (fun e => (PySem.strKind P w).is k e.2) es.toList with
  | some j =>
    dsimp only
    obtain ⟨hj, pj, _⟩ := List.findIdx?_eq_some_iff_getElem.mp hfi
    have hk : k ∈ ks := (hm k).1 (hkm.2 ⟨es.toList[j], List.getElem_mem hj, pj⟩)
    refine wpAny_pure (wpAny_pure ?_)
    exact hQ s.heap _ (Heap.SameBut.refl a s.heap) ⟨o, es, ep, t, ho, hex, hd, g, nd, fun i => by
      rw [hm i, List.mem_append, List.mem_singleton]
      exact ⟨.inl, fun z => z.elim id fun e => e ▸ hk⟩, hb, hf, hr, hl⟩
  | none =>
    dsimp only
    have hnk : k ∉ es.toList.map keyS := fun z => by
      obtain ⟨e, he, q⟩ := hkm.1 z
      have c := List.findIdx?_eq_none_iff.mp hfi e he
      rw [q] at c
      cases c
    have hgw : ∀ (b : Bool) {s₁ : Shared} {Q' : Unit → Shared → Prop}, Q' () s₁ → wpAny (model P w) A (match b with | true => rule "set.scan.the-table-gave-way" | false => pure ()) Q' E s₁ :=
      fun b s₁ Q' q => by cases b <;> first | exact wpAny_pure q | exact wpAny_rule q
    have pm := layNew_perm t es ((PySem.strKind P w).hash k) (.str k tk)
    have hf1 := layNew_fits t es ((PySem.strKind P w).hash k) (.str k tk)
    have hr1 := layNew_ris t es ((PySem.strKind P w).hash k) (.str k tk) hr
    have hl1 := layNew_led t es ((PySem.strKind P w).hash k) (.str k tk)
    generalize layNew t es ((PySem.strKind P w).hash k) (.str k tk) = Z at pm hf1 hr1 hl1 ⊢
    obtain ⟨es1, t1, wasDummy, gave⟩ := Z
    dsimp only at pm hf1 hr1 hl1 ⊢
    rw [Array.toList_push] at pm
    have pc : es1.toList.Perm (((PySem.strKind P w).hash k, Value.str k tk) :: es.toList) := pm.trans (List.perm_append_singleton _ _)
    have hlen : (es.toList.map keyS).length ≤ ks.length := nodup_len _ _ nd fun x hx => (hm x).1 hx
    have hes : es1.size = es.size + 1 := by rw [← Array.length_toList, pc.length_eq, List.length_cons, Array.length_toList]
    have hle : es.size ≤ ks.length := by rw [List.length_map, Array.length_toList] at hlen; exact hlen
    have hb1 : es1.size < scanBound := by rw [hes]; omega
    have hled : w.params.followText "set-order" = true ∨ t1.led = true := hl.imp id fun z => by rw [hl1]; exact z
    have new : ∀ h' o' es2 ep2 t3, h'.get? a = some o' → o'.ExactSet → o'.data = .set es2 ep2 t3 → es2.toList.Perm es1.toList → t3.fits es2.size = true → L2.Ris t3.place.toList → (w.params.followText "set-order" = true ∨ t3.led = true) → SetG P w h' a (ks ++ [k]) := by
      intro h' o' es2 ep2 t3 e1 e2 e3 p f r l
      have pa := p.trans pc
      have pk : (es2.toList.map keyS).Perm (k :: es.toList.map keyS) := pa.map keyS
      refine ⟨o', es2, ep2, t3, e1, e2, e3, fun e he => ?_, pk.nodup_iff.mpr (List.nodup_cons.mpr ⟨hnk, nd⟩), fun i => ?_, ?_, f, r, l⟩
      · rcases List.mem_cons.mp (pa.mem_iff.mp he) with z | z
        · rw [z]; exact ⟨k, tk, rfl, rfl⟩
        · exact g e z
      · rw [pk.mem_iff, List.mem_cons, hm i, List.mem_append, List.mem_singleton]
        exact Or.comm
      · have : es2.size = es1.size := by rw [← Array.length_toList, p.length_eq, Array.length_toList]
        rw [this]
        exact hb1
    refine wpAny_bind (hgw _ ?_)
    split
    · refine wpAny_bind ?_
      rw [hashByValue_scannable 8 hsc]
      refine wpAny_pure ?_
      refine setG_tail (ks' := ks ++ [k]) ?_ ho hex hd new hb1 ?_ ?_ ?_ ?_
      · intro b s₁ Q' q; cases b <;> first | exact wpAny_pure q | exact wpAny_rule q
      · first | (split <;> first | exact hf1 | exact SetTable.fits_plain_off hf1) | exact hf1
      · first | (split <;> exact hr1) | exact hr1
      · first | (split <;> exact hled) | exact hled
      · intro h' sb r; dsimp only; exact wpAny_pure (hQ h' _ sb r)
    · refine wpAny_bind (wpAny_pure ?_)
      simp only [↓reduceIte]
      refine setG_tail (ks' := ks ++ [k]) ?_ ho hex hd new hb1 hf1 hr1 hled ?_
      · intro b s₁ Q' q; cases b <;> first | exact wpAny_pure q | exact wpAny_rule q
      · intro h' sb r; dsimp only; exact wpAny_pure (hQ h' _ sb r)
theorem setG_fresh {h : Heap} (ho : h.get? a = some { cls := .type "set", dict := none, data := .set #[] 0 (.fresh 0 0 (!w.params.followText "set-order")) }) : SetG P w h a [] :=
  ⟨_, #[], 0, _, ho, ⟨rfl, rfl, rfl⟩, rfl, (fun e he => by simp at he), (by simp), (fun k => by simp), (by decide), (by rfl), List.Pairwise.nil, by
    show _ ∨ (!w.params.followText "set-order") = true
    cases w.params.followText "set-order"
    · exact .inr rfl
    · exact .inl rfl⟩
/-- the loop that puts the texts in -/
theorem set_update_strs {I : Addr} {fp wr : List Addr} {G : Array GenState → Array GenState → Prop} {n : Nat} {Pv : Nat → Value → Prop} {St : Nat → Shared → Prop} {R : Result → Shared → Prop}
    (W : WalksS P w A.in1 I fp wr G n Pv St) (S : Addr) (hSf : S ∉ fp) (xs : List Str) (hn : n = xs.length) (hfew : xs.length + 2 < scanBound) (hval : ∀ i v, Pv i v → ∃ t, v = .str (xs.getD i Str.empty) t) :
    ∀ (k i : Nat) (s : Shared), n - i = k → i ≤ n → St i s → SetG P w s.heap S (xs.take i) →
      (∀ s', Moved (S :: wr) G s s' → SetG P w s'.heap S xs → R (.ok (.ret .none)) s') →
      codeAny (model P w) A (.builtin "set.update.loop" ⟨[.ref S, .ref I], []⟩) R s := by
  have hSw : S ∉ wr := fun h => hSf (W.sub _ h)
  have hsub : ∀ b ∈ wr, b ∈ S :: wr := fun b hb => List.mem_cons_of_mem _ hb
  intro k
  induction k with
  | zero =>
    intro i s hk hi hst hS hR
    have hin : i = n := by omega
    subst hin
    refine codeAny_builtin PyProof.Rows.F.entry_set_update_loop ?_
    rw [Around.under_plainId PyProof.Rows.F.plain_set_update_loop _]
    show wpAny _ A.in1 (pyNext (.ref I) >>= _) _ _ s
    refine wpAny_bind (W.done s _ _ hst fun s' hm => ?_)
    show wpAny _ A.in1 (ret Value.none) _ _ s'
    rw [hn, List.take_length] at hS
    exact wpAny_pure (hR s' (hm.mono hsub) (hS.at_ fun o e => hm.heap S o hSw e))
  | succ k ih =>
    intro i s hk hi hst hS hR
    have hlt : i < n := by omega
    refine codeAny_builtin PyProof.Rows.F.entry_set_update_loop ?_
    rw [Around.under_plainId PyProof.Rows.F.plain_set_update_loop _]
    show wpAny _ A.in1 (pyNext (.ref I) >>= _) _ _ s
    refine wpAny_bind (W.item i s _ _ hlt hst fun v s' hP hst' hm => ?_)
    obtain ⟨t, rfl⟩ := hval i v hP
    have hS' : SetG P w s'.heap S (xs.take i) := hS.at_ fun o e => hm.heap S o hSw e
    show wpAny _ A.in1 (holding [Value.str (xs.getD i Str.empty) t] (setAdd S (.str (xs.getD i Str.empty) t)) >>= _) _ _ s'
    refine wpAny_bind (wpAny_holding ?_)
    unfold setAdd
    refine wpAny_holding ?_
    refine wpAny_bind ((PySem.strKind P w).pyHash (k := xs.getD i Str.empty) (strKind_is _ _ _ _) ?_)
    refine setG_add (s := { s' with toks := s'.toks + 1 }) hS' (by rw [List.length_take]; omega) fun h' b hsb hS2 => ?_
    have et : xs.take i ++ [xs.getD i Str.empty] = xs.take (i + 1) := by
      rw [List.take_add_one]
      have q : xs[i]? = some (xs.getD i Str.empty) := by
        have l : i < xs.length := by omega
        simp [List.getD, l]
      rw [q]
      rfl
    rw [et] at hS2
    refine wpAny_pure ⟨plainId_quiet PyProof.Rows.F.plain_set_update_loop _, ih (i + 1) _ (by omega) hlt (W.frame _ s' _ _ hst' (Nat.le_succ _) fun b hb o e => ?_) hS2 fun s'' hm'' hS'' => ?_⟩
    · rw [hsb.2 b (fun h : b = S => hSf (by rw [← h]; exact hb))]; exact e
    · refine hR s'' (Moved.trans W.gtrans ((hm.mono hsub).then_heap (Nat.le_succ _) fun b o hb e => ?_) hm'') hS''
      rw [hsb.2 b (fun h : b = S => hb (by rw [h]; exact List.mem_cons_self))]; exact e
set_option maxHeartbeats 3200000 in
/-- set(a list of texts) -/
theorem call_set_strs {l : Addr} {items : Array Value} {xs : List Str} {Q : Value → Shared → Prop} (hh : A.handled = none) (hl : s.heap.IsList l items) (hi : PyProof.Rows.StrsAre items.toList xs) (hfew : xs.length + 2 < scanBound)
    (h : ∀ (h' : Heap) (tk : Nat), SetG P w h' s.heap.objs.size xs → (∀ b o, s.heap.get? b = some o → h'.get? b = some o) → Q (.ref s.heap.objs.size) { s with heap := h', toks := tk }) :
    wpAny (model P w) A (call (.type "set") [.ref l]) Q E s := by
  obtain ⟨c, tl, hmro⟩ := PySem.F.called_set.mro
  have hmade := PySem.F.called_set.made
  have hsub := PySem.F.called_set.sub
  refine wpAny_call (codeAny_of_tree ?_)
  show wpAny _ _ (callAny (.type "set") _) _ _ _
  refine wpAny_pure ⟨Code.quiet_builtin _ (by decide +kernel), codeAny_builtin PySem.F.entry_type_call ?_⟩
  rw [Around.under_plain (weight_type_call_type "set" [.ref l] []) rfl]
  have h1 := PySem.F.called_set.notType
  have h2 := PySem.F.called_set.canCreate
  have hct := PySem.F.typeCall_set_1 (.ref l)
  repeat (any_goals (first | assumption | wp_step))

  refine codeAny_mono (L2.code_set_led1 (.ref l) (E := E) (Q₁ := fun obj s₁ => obj = .ref s.heap.objs.size ∧ s₁ = { s with heap := s.heap.push { cls := .type "set", dict := none, data := .set #[] 0 (.fresh 0 0 (!w.params.followText "set-order")) } }) ⟨rfl, rfl⟩) fun r s₁ hr => ?_
  match r, hr with
  | .error e, hr => exact hr
  | .ok .next, hr => exact hr.elim
  | .ok .brk, hr => exact hr.elim
  | .ok .cont, hr => exact hr.elim
  | .ok (.ret obj), hr =>
      obtain ⟨rfl, rfl⟩ := hr
      have hS : (s.heap.push { cls := .type "set", dict := none, data := .set #[] 0 (.fresh 0 0 (!w.params.followText "set-order")) }).get? s.heap.objs.size = some { cls := .type "set", dict := none, data := .set #[] 0 (.fresh 0 0 (!w.params.followText "set-order")) } := Heap.get?_push_size _ rfl
      have hT : Shared.TypeIs { s with heap := s.heap.push { cls := .type "set", dict := none, data := .set #[] 0 (.fresh 0 0 (!w.params.followText "set-order")) } } (.ref s.heap.objs.size) "set" := ⟨_, hS, rfl⟩
      have hli := PySem.F.called_set.init.lookup
      have hbi := PySem.F.called_set.init.bind (.ref s.heap.objs.size)
      repeat (any_goals (first | assumption | wp_step))

      refine codeAny_mono (codeAny_call_builtin (R := wants (fun r s₂ => r = .none ∧ ∃ h' tk, s₂ = { s with heap := h', toks := tk } ∧ SetG P w h' s.heap.objs.size xs ∧ (∀ b o, s.heap.get? b = some o → h'.get? b = some o)) E)
        PySem.F.called_set.init.plain PySem.F.entry_set_init (check_set_init_1 hT ?_)) fun r₂ s₂ hr₂ => ?_
      · obtain ⟨ol, hol, hcl, nl, hdl⟩ := hl
        obtain ⟨ocls, odict, odata, oslots⟩ := ol
        simp only at hcl hdl
        subst hcl; subst hdl
        have hol' : (s.heap.push { cls := .type "set", dict := none, data := .set #[] 0 (.fresh 0 0 (!w.params.followText "set-order")) }).get? l = some { cls := .type "list", dict := odict, data := .seq items nl, slots := oslots } := Heap.get?_push_of_some _ hol
        have hsls := PySem.F.sub_list_set
        have hslf := PySem.F.sub_list_frozenset
        have hne : (Value.type "list" == Value.type "dict") = false := by decide
        have hl1 : (s.heap.push { cls := .type "set", dict := none, data := .set #[] 0 (.fresh 0 0 (!w.params.followText "set-order")) }).IsList l items := ⟨_, hol', rfl, nl, rfl⟩
        unfold Builtin.«set.__init__» noKeywords Builtin.Frozenset.updateFrom
        generalize hPI : pyIter = PI
        wp_walk
        subst hPI

        refine wpAny_pyIter_list hl1 ?_
        refine wpAny_bind (wpAny_runValue ?_)
        have hlS : l < s.heap.objs.size := Heap.lt_size hol
        have hh3 : A.in1.in1.in1.handled = none := by simp [hh]
        have hneI : l ≠ (s.heap.push { cls := .type "set", dict := none, data := .set #[] 0 (.fresh 0 0 (!w.params.followText "set-order")) }).objs.size := by
          rw [Heap.size_push]; exact Nat.ne_of_lt (Nat.lt_succ_of_lt hlS)
        have hSf : s.heap.objs.size ∉ [(s.heap.push { cls := .type "set", dict := none, data := .set #[] 0 (.fresh 0 0 (!w.params.followText "set-order")) }).objs.size, l] := by
          rw [Heap.size_push]; simp only [List.mem_cons, List.mem_singleton, List.not_mem_nil, or_false, not_or]
          exact ⟨Nat.ne_of_lt (Nat.lt_succ_self _), Nat.ne_of_gt hlS⟩
        have hsz : xs.length = items.size := by rw [← StrsAre.len_eq hi, Array.length_toList]
        have hval : ∀ (i : Nat) (v : Value), items[i]? = some v → ∃ t, v = .str (xs.getD i Str.empty) t := fun i v hv => SS.strs_at hi i v (by rw [Array.getElem?_toList]; exact hv)
        refine set_update_strs ((Walks.list hh3 _ l hneI items).toS) s.heap.objs.size
          hSf xs hsz.symm hfew hval (items.size - 0) 0 _ (by omega) (Nat.zero_le _)
          ⟨⟨_, Heap.get?_push_size _ rfl, rfl, rfl⟩, (hl1.push _)⟩ ?hS0 ?hR
        case hS0 =>
          exact setG_fresh (Heap.get?_push_of_some _ hS)
        case hR =>
          intro s' hm hS'
          obtain ⟨h', g', d', tk', os'⟩ := s'
          have eg : g' = s.gens := hm.gens
          have ed : d' = s.drawn := hm.drawn
          have eo : os' = s.os := hm.os
          subst eg; subst ed; subst eo
          show wpAny _ _ _ _ _ _
          refine wpAny_pure ?_
          show wpAny _ _ (ret Value.none) _ _ _
          refine wpAny_pure ⟨rfl, h', tk', rfl, hS', fun b o e => ?_⟩
          have hb := Heap.lt_size e
          have hb1 : b ≠ s.heap.objs.size := Nat.ne_of_lt hb
          have hb2 : b ≠ (s.heap.push { cls := .type "set", dict := none, data := .set #[] 0 (.fresh 0 0 (!w.params.followText "set-order")) }).objs.size := by
            rw [Heap.size_push]; exact Nat.ne_of_lt (Nat.lt_succ_of_lt hb)
          exact hm.heap b o (by simp only [List.mem_cons, List.mem_singleton, List.not_mem_nil, or_false, not_or]; exact ⟨hb1, hb2⟩) (Heap.get?_push_of_some _ (Heap.get?_push_of_some _ e))
      · match r₂, hr₂ with
        | .error e, hr₂ => exact hr₂
        | .ok .next, hr₂ => exact hr₂.elim
        | .ok .brk, hr₂ => exact hr₂.elim
        | .ok .cont, hr₂ => exact hr₂.elim
        | .ok (.ret r), hr₂ =>
          obtain ⟨rfl, h', tk, rfl, hS', hk'⟩ := hr₂
          repeat (any_goals (first | assumption | wp_step))
          exact h _ _ hS' hk'
end
end KT

namespace KT
open PySem PySem.Spec PyProof.Rows L2
section
variable {P : Program} {w : World} {A : Around} {E : Value → Shared → Prop} {s : Shared} {a : Addr} {ks : List Str}
theorem strs_of : ∀ (l : List Value), (∀ v ∈ l, ∃ k tk, v = Value.str k tk) → StrsAre l (l.map fun v => keyS (0, v))
  | [], _ => .nil
  | v :: l, h => by
    obtain ⟨k, tk, rfl⟩ := h v List.mem_cons_self
    exact .cons k tk (strs_of l fun u hu => h u (List.mem_cons_of_mem _ hu))
/-- sorted(a set of texts) -/
theorem sorted_setG {Q : Value → Shared → Prop} (R : SetG P w s.heap a ks) (hh : A.handled = none)
    (hQ : ∀ s' p (out : Array Value) (c : Nat) (ys : List Str), (∀ b o, s.heap.get? b = some o → s'.heap.get? b = some o) → s'.gens = s.gens → s'.os = s.os → s.heap.objs.size ≤ p →
      s'.heap.get? p = some (seqObj "list" out c) → StrsAre out.toList ys → sortedS ys = true → ys.Nodup → (∀ k, k ∈ ys ↔ k ∈ ks) → ys.length ≤ 4096 → Q (.ref p) s') :
    wpAny (model P w) A (call (.builtin "sorted") [.ref a]) Q E s := by
  obtain ⟨o, es, ep, t, ho, hex, hd, g, nd, hm, hb, hf, hr, hl⟩ := R
  refine Calls.call_function_entry kind_sorted plain_sorted entry_sorted (args_sorted1 _) ?_
  unfold Builtin.«sorted»
  refine wpAny_bind (m := checkCount "sorted" 1 1 _) (wpAny_pure ?_)
  refine wpAny_bind (collect_set (A := A.in1) hh ⟨o, ho, hex.1, hd⟩ hf hb hr hl fun s1 vs k1 hz g1 o1 pm => ?_)
  have hvl : vs.length = es.size := by rw [pm.length_eq, List.length_map, Array.length_toList]
  have hb' : es.size < 4096 := hb
  have hS : StrsAre vs (vs.map fun v => keyS (0, v)) := strs_of vs fun v hv => by
    obtain ⟨e, he, q⟩ := List.mem_map.mp (pm.mem_iff.mp hv)
    obtain ⟨k, tk, h1, _⟩ := g e he
    exact ⟨k, tk, by rw [← q]; exact h1⟩
  have pk : (vs.map fun v => keyS (0, v)).Perm (es.toList.map keyS) := by
    have q := pm.map fun v => keyS (0, v)
    rw [List.map_map] at q
    exact q
  refine wpAny_bind (wpAny_newList ?_ (by rw [hvl, sizeLine_eq]; omega))
  have hoL : (s1.heap.push (seqObj "list" vs.toArray 0)).get? s1.heap.objs.size = some (seqObj "list" vs.toArray 0) := Heap.get?_push_size _ rfl
  refine wpAny_bind (wpAny_holding (wpAny_call_entry slot_list_sort ⟨_, hoL, rfl⟩ entry_list_sort (list_sort_treeKAny strKind_oneLt hoL hS.keysOf (fun v₁ v₂ rest e => keyKind_strs (by rw [← e]; exact hS)) (by rw [hvl, sizeLine_eq]; omega) fun st' hp hs => ⟨_, rfl, ?_⟩) (args_list_sort _)))
  obtain ⟨ys, a1, a2, a3⟩ := sorted_out_str hS hp hs
  obtain ⟨c, hc⟩ := sortedHeap_at (vs := vs) (out := (arrOf st').map (·.2)) hoL
  have pn : ys.Perm (es.toList.map keyS) := a2.trans pk
  refine wpAny_pure ⟨_, rfl, hQ _ s1.heap.objs.size _ c ys (fun b u e => ?_) g1 o1 hz hc a1 a3 (pn.nodup_iff.mpr nd) (fun k => by rw [pn.mem_iff, hm k]) ?_⟩
  · have q := k1 b u e
    have hlt := Heap.lt_size q
    show (sortedHeap (s1.heap.push (seqObj "list" vs.toArray 0)) s1.heap.objs.size vs _).get? b = some u
    rw [sortedHeap_old (Nat.ne_of_lt hlt) (by rw [size_push']; exact Nat.lt_succ_of_lt hlt)]
    exact Heap.get?_push_of_some _ q
  · rw [pn.length_eq, List.length_map, Array.length_toList]
    omega
end
/-- the set of texts at a -/
def SetGO (P : Program) (w : World) (a : Addr) (ks : List Str) : HO := .ext fun h => SetG P w h a ks
section
variable {X : Cx}
theorem setGO_new {w : World} {P : Program} {H : Hp} {h : Heap} {a : Addr} {ks : List Str} (R : SetG P w h a ks) : ObjOk P w H h a (SetGO P w a ks) := by
  have ⟨o, _, _, _, ho, _⟩ := R
  exact ⟨R, ⟨o, ho⟩, fun h1 h2 p k => SetG.at_ p k⟩
/-- set(xs), texts -/
theorem cr_setG (hc : X.calm = true) : CallR X (.type "set") (fun vs H Q => ∃ (l : Addr) (xs : List Str), vs = [.ref l] ∧ SqL X.K H l (xs.map V.str) ∧ xs.length ≤ 4000 ∧ ∀ p, H p = none → Q (.ref p) (upd H p (SetGO X.prog X.w p xs))) := by
  intro pins s σ H vs us Q I r h
  obtain ⟨l, xs, rfl, hs, hz, q⟩ := h
  obtain ⟨its, rv, hl, _⟩ := I.list hs
  rw [Vals.ref1 r]
  refine call_set_strs (I.ok.hd hc) hl.isList rv.strs (by show xs.length + 2 < 4096; omega) fun h' tk R hk => ?_
  exact ⟨.ref s.heap.objs.size, upd H s.heap.objs.size (SetGO X.prog X.w s.heap.objs.size xs), I.laid (t' := tk) hk (Nat.le_refl _) (setGO_new R), rfl, q _ (I.hok.fresh (Nat.le_refl _))⟩
/-- sorted(a set of texts) -/
theorem cr_sortedG (hc : X.calm = true) : CallR X (.builtin "sorted") (fun vs H Q => ∃ (a : Addr) (ks : List Str), vs = [.ref a] ∧ H a = some (SetGO X.prog X.w a ks) ∧
    ∀ (ys : List Str) (p : Addr), sortedS ys = true → ys.Nodup → (∀ k, k ∈ ys ↔ k ∈ ks) → H p = none → Q (.ref p) (upd H p (.lst (ys.map V.str)))) := by
  intro pins s σ H vs us Q I r h
  obtain ⟨a, ks, rfl, ha, q⟩ := h
  have R : SetG X.prog X.w s.heap a ks := (I.hok a _ ha).1
  rw [Vals.ref1 r]
  refine sorted_setG R (I.ok.hd hc) fun s' p out c ys k g o hp hg hi hs hn hm hl => ?_
  have hlen : (ys.map V.str).length ≤ sizeLine := by rw [List.length_map, sizeLine_eq]; omega
  have hn' : H p = none := I.hok.fresh hp
  have J : Inv X pins σ (upd H p (.lst (ys.map V.str))) { s with heap := s'.heap, gens := s'.gens, drawn := s'.drawn, toks := s'.toks } :=
    I.call (ch := []) (Un.laid k hp hn') (I.hok.laid k hp ⟨hlen, out.toList, c, vals_of_strs hi, hg⟩) (by rw [g]; exact I.bare) (fun _ z => nomatch z)
  have e : s' = { s with heap := s'.heap, gens := s'.gens, drawn := s'.drawn, toks := s'.toks } := by
    cases s'
    cases s
    cases o
    rfl
  rw [e]
  exact ⟨.ref p, _, J, rfl, q ys p hs hn hm hn'⟩
end
end KT

/-! sum(a list of lists, []) -/
namespace KT
open PySem PySem.Spec PyProof.Rows L2
theorem sub_lst_str : isSubtype (.type "list") (.type "str") = pure false := by rw [isSubtype_type]; kernel_rfl
theorem sub_lst_bytes : isSubtype (.type "list") (.type "bytes") = pure false := by rw [isSubtype_type]; kernel_rfl
theorem sub_lst_bytearray : isSubtype (.type "list") (.type "bytearray") = pure false := by rw [isSubtype_type]; kernel_rfl
theorem args_sum2 (a b : Value) : argsOk "sum" ⟨[a, b], []⟩ := by unfold argsOk; kernel_rfl
def Inner (h : Heap) (its : Array Value) (xss : List (List Value)) : Prop := ∀ (i : Nat) (v : Value), its[i]? = some v → ∃ (a : Addr) (n : Nat) (xs : List Value), v = .ref a ∧ xss[i]? = some xs ∧ IsL h a xs.toArray n
section
variable {prog : Program} {w : World} {A : Around} {R : Result → Shared → Prop} {I l : Addr} {its : Array Value} {xss : List (List Value)}
theorem loop_sumL (hh : A.handled = none) (hne : l ≠ I) (hl : xss.length = its.size) (hz : xss.flatten.length ≤ sizeLine) (S T0 b0 : Addr) (hSI : S ≠ I) (hSl : S ≠ l) (hb : b0 ≤ S) (hI : b0 ≤ I) :
    ∀ (k i : Nat) (s : Shared) (T : Addr) (c cT : Nat), its.size - i = k → i ≤ its.size → (s.heap.IsListIter I l i ∧ s.heap.IsList l its) → s.heap.get? S = some { cls := .type "list", dict := none, data := .seq #[.ref T] c, slots := #[] } →
    IsL s.heap T (xss.take i).flatten.toArray cT → T ≠ S → T ≠ I → (i = 0 ∧ T = T0 ∨ b0 ≤ T) →
    (∀ (j : Nat) (v : Value), its[j]? = some v → ∃ (a : Addr) (n : Nat) (xs : List Value), v = .ref a ∧ a ≠ S ∧ a ≠ I ∧ xss[j]? = some xs ∧ IsL s.heap a xs.toArray n) →
    (∀ h' tk T' c', (∀ b o, b ≠ I → b ≠ S → s.heap.get? b = some o → h'.get? b = some o) → (its.size = 0 ∧ T' = T0 ∨ b0 ≤ T') → IsL h' T' xss.flatten.toArray c' → R (.ok (.ret (.ref T'))) { s with heap := h', toks := tk }) →
    codeAny (model prog w) A (.builtin "sum.loop" ⟨[.ref I, .ref S, rawInt 2, rawInt 0], []⟩) R s := by
  have W := Walks.list (prog := prog) (w := w) (A := A.in1) hh I l hne its
  intro k
  induction k with
  | zero =>
    intro i s T c cT hk hi hst hS hT hTS hTI hT0 hin hR
    have hin : i = its.size := by omega
    subst hin
    refine codeAny_builtin F.entry_sum_loop ?_
    rw [Around.under_plainId F.plain_sum_loop _]
    show wpAny _ A.in1 (seqItems? (.ref S) >>= _) _ _ s
    refine wpAny_bind (wpAny_seqItems hS rfl ?_)
    show wpAny _ A.in1 (tryCatch (pyNext (.ref I)) _ >>= _) _ _ s
    refine wpAny_bind (wpAny_tryCatch (W.done s _ _ hst fun h' tk hk' => ?_))
    have hk2 : ∀ b o, b ≠ I → s.heap.get? b = some o → h'.get? b = some o := fun b o hb e => hk' b o (by simpa using hb) e
    refine wpAny_pure (hR h' tk T cT (fun b o hbI _ e => hk2 b o hbI e) hT0 ?_)
    rw [← hl, List.take_length] at hT
    exact hk2 T _ hTI hT
  | succ k ih =>
    intro i s T c cT hk hi hst hS hT hTS hTI hT0 hin hR
    have hlt : i < its.size := by omega
    refine codeAny_builtin F.entry_sum_loop ?_
    rw [Around.under_plainId F.plain_sum_loop _]
    show wpAny _ A.in1 (seqItems? (.ref S) >>= _) _ _ s
    refine wpAny_bind (wpAny_seqItems hS rfl ?_)
    show wpAny _ A.in1 (tryCatch (pyNext (.ref I)) _ >>= _) _ _ s
    refine wpAny_bind (wpAny_tryCatch (W.item i s _ _ hlt hst fun v h' tk hP hst' hk' => ?_))
    have hk2 : ∀ b o, b ≠ I → s.heap.get? b = some o → h'.get? b = some o := fun b o hb e => hk' b o (by simpa using hb) e
    obtain ⟨a, n, xs, rfl, haS, haI, hxs, hax⟩ := hin i v hP
    have hS' := hk2 S _ hSI hS
    have hT' : IsL h' T (xss.take i).flatten.toArray cT := hk2 T _ hTI hT
    have hax' : IsL h' a xs.toArray n := hk2 a _ haI hax
    have fl : (xss.take (i + 1)).flatten = (xss.take i).flatten ++ xs := by rw [List.take_add_one, hxs, List.flatten_append]; simp
    have hsz : (xss.take i).flatten.toArray.size + xs.toArray.size ≤ sizeLine := by
      have q : (xss.take (i + 1)).flatten.length ≤ xss.flatten.length := by
        conv => rhs; rw [← List.take_append_drop (i + 1) xss, List.flatten_append, List.length_append]
        omega
      rw [fl, List.length_append] at q
      rw [List.size_toArray, List.size_toArray]
      omega
    show wpAny _ A.in1 ((holding [Value.ref a] (binaryOp .Add (.ref T) (.ref a))).attempt >>= _) _ _ _
    refine wpAny_bind (wpAny_attempt (wpAny_holding (PySem.P.add_list hT' hax' ?_ hsz)))
    generalize hp : Heap.push h' { cls := .type "list", data := .seq ((xss.take i).flatten.toArray ++ xs.toArray) } = h2
    have hpo : ∀ b o, h'.get? b = some o → h2.get? b = some o := fun b o e => by rw [← hp]; exact Heap.get?_push_of_some _ e
    have hN : IsL h2 h'.objs.size ((xss.take (i + 1)).flatten).toArray 0 := by
      rw [fl, ← hp]
      have e : ((xss.take i).flatten ++ xs).toArray = (xss.take i).flatten.toArray ++ xs.toArray := by simp
      rw [e]
      exact Heap.get?_push_size _ rfl
    have hS2 := hpo S _ hS'
    have ltS : S < h'.objs.size := Heap.lt_size hS'
    have ltI : I < h'.objs.size := by obtain ⟨o, e, _⟩ := hst'.1; exact Heap.lt_size e
    have ltl : l < h'.objs.size := by obtain ⟨o, e, _⟩ := hst'.2; exact Heap.lt_size e
    show wpAny _ A.in1 (updateSeq S (fun _ => #[.ref h'.objs.size]) >>= _) _ _ _
    refine wpAny_bind (wpAny_updateSeq (s := { s with heap := h2, toks := tk }) hS2 rfl ?_)
    have hS3 := Heap.get?_update_self (Obj.mapSeq fun _ => #[Value.ref h'.objs.size]) hS2 rfl
    refine wpAny_bind (wpAny_letGo ?_)
    refine wpAny_bind (wpAny_updateSeq (s := { s with heap := h2.update S (Obj.mapSeq fun _ => #[Value.ref h'.objs.size]), toks := tk }) hS3 rfl ?_)
    have old : ∀ b o, b ≠ S → h'.get? b = some o → ((h2.update S (Obj.mapSeq fun _ => #[Value.ref h'.objs.size])).update S (Obj.mapSeq fun _ => #[Value.ref h'.objs.size])).get? b = some o := fun b o hb e =>
      (Heap.get?_update_other _ _ (Ne.symm hb)).trans ((Heap.get?_update_other _ _ (Ne.symm hb)).trans (hpo b o e))
    refine wpAny_pure ⟨plainId_quiet F.plain_sum_loop _, ih (i + 1) _ h'.objs.size _ 0 (by omega) hlt ⟨hst'.1.at fun o e => old I o hSI.symm e, hst'.2.at fun o e => old l o hSl.symm e⟩ (Heap.get?_update_self _ hS3 rfl) ?_ (Nat.ne_of_gt ltS) (Nat.ne_of_gt ltI) (.inr (Nat.le_trans hb (Nat.le_of_lt ltS))) (fun j v hj => ?_) fun h'' tk'' T' c' hk'' hb' hT'' => ?_⟩
    · exact (Heap.get?_update_other _ _ (Nat.ne_of_lt ltS)).trans ((Heap.get?_update_other _ _ (Nat.ne_of_lt ltS)).trans hN)
    · obtain ⟨a', n', xs', e1, e2, e3, e4, e5⟩ := hin j v hj
      exact ⟨a', n', xs', e1, e2, e3, e4, old a' _ e2 (hk2 a' _ e3 e5)⟩
    · exact hR h'' tk'' T' c' (fun b o hbI hbS e => hk'' b o hbI hbS (old b o hbS (hk2 b o hbI e))) hb' hT''
end
section
variable {prog : Program} {w : World} {A : Around} {E : Value → Shared → Prop} {s : Shared} {l T0 : Addr} {its : Array Value} {xss : List (List Value)}
theorem call_sumL {Q : Value → Shared → Prop} {c0 : Nat} (hh : A.handled = none) (hl : s.heap.IsList l its) (hi : Inner s.heap its xss) (hlen : xss.length = its.size) (hz : xss.flatten.length ≤ sizeLine) (h0 : IsL s.heap T0 #[] c0)
    (h : ∀ h' tk T' c', (∀ b o, s.heap.get? b = some o → h'.get? b = some o) → (its.size = 0 ∧ T' = T0 ∨ s.heap.objs.size ≤ T') → IsL h' T' xss.flatten.toArray c' → Q (.ref T') { s with heap := h', toks := tk }) :
    wpAny (model prog w) A (call (.builtin "sum") [.ref l, .ref T0]) Q E s := by
  refine call_function_tree F.kind_sum F.plain_sum F.entry_sum (args_sum2 _ _) ?_
  unfold Builtin.«sum»
  simp only [List.length_cons, List.length_nil]
  rw [if_neg (by decide)]
  refine wpAny_bind (wpAny_of_eq (show Builtin.Builtins.bindParams "sum" ["start"] 0 ⟨[.ref T0], []⟩ = pure [some (.ref T0)] from rfl) ?_)
  have hlt : l < s.heap.objs.size := by obtain ⟨_, e, _⟩ := hl; exact Heap.lt_size e
  refine wpAny_bind (wpAny_pyIter_list hl ?_)
  refine wpAny_bind (wpAny_pure ?_)
  generalize hp : s.heap.push { cls := .type "list_iterator", data := .fields #[.ref l, .int 0 0] } = h2
  have hpo : ∀ b o, s.heap.get? b = some o → h2.get? b = some o := fun b o e => by rw [← hp]; exact Heap.get?_push_of_some _ e
  have hIt : h2.IsListIter s.heap.objs.size l 0 := by rw [← hp]; exact ⟨_, Heap.get?_push_size _ rfl, rfl, rfl⟩
  have hT : Shared.TypeIs { s with heap := h2 } (.ref T0) "list" := ⟨_, hpo _ _ h0, rfl⟩
  have s2 : h2.objs.size = s.heap.objs.size + 1 := by rw [← hp]; exact Heap.size_push ..
  simp only [List.forIn_cons, List.forIn_nil]
  refine wpAny_bind (wpAny_bind (wpAny_bind (wpAny_isInstance (T := "list") (b := false) hT sub_lst_str ?_)))
  simp only [Bool.false_eq_true, if_false]
  refine wpAny_pure (wpAny_bind (wpAny_bind (wpAny_isInstance (T := "list") (b := false) hT sub_lst_bytes ?_)))
  simp only [Bool.false_eq_true, if_false]
  refine wpAny_pure (wpAny_bind (wpAny_bind (wpAny_isInstance (T := "list") (b := false) hT sub_lst_bytearray ?_)))
  simp only [Bool.false_eq_true, if_false]
  refine wpAny_pure (wpAny_pure ?_)
  refine wpAny_bind (wpAny_newObj_type ?_)
  have lt0 : T0 < s.heap.objs.size := Heap.lt_size h0
  have n1 : s.heap.objs.size < h2.objs.size := by rw [s2]; exact Nat.lt_succ_self _
  have po : ∀ b o, s.heap.get? b = some o → (h2.push { cls := .type "list", dict := none, data := .seq #[.ref T0] 0, slots := #[] }).get? b = some o := fun b o e => Heap.get?_push_of_some _ (hpo b o e)
  refine wpAny_pure ⟨plainId_quiet F.plain_sum_loop _, loop_sumL (xss := xss) hh (Nat.ne_of_lt hlt) hlen hz h2.objs.size T0 s.heap.objs.size (Nat.ne_of_gt n1) (Nat.ne_of_gt (Nat.lt_trans hlt n1)) (Nat.le_of_lt n1) (Nat.le_refl _) its.size 0 _ T0 0 c0 (by omega) (Nat.zero_le _)
    ⟨hIt.at fun o e => Heap.get?_push_of_some _ e, hl.at fun o e => po _ _ e⟩ (Heap.get?_push_size _ rfl) (by simpa using po _ _ h0) (Nat.ne_of_lt (Nat.lt_trans lt0 n1)) (Nat.ne_of_lt lt0) (.inl ⟨rfl, rfl⟩) (fun j v hj => ?_) fun h' tk T' c' hk hb hT' => ?_⟩
  · obtain ⟨a, n, xs, e1, e2, e3⟩ := hi j v hj
    have := Heap.lt_size e3
    exact ⟨a, n, xs, e1, Nat.ne_of_lt (Nat.lt_trans this n1), Nat.ne_of_lt this, e2, po _ _ e3⟩
  · refine h h' tk T' c' (fun b o e => ?_) hb hT'
    have := Heap.lt_size e
    exact hk b o (Nat.ne_of_lt this) (Nat.ne_of_lt (Nat.lt_trans this n1)) (po b o e)
end
end KT

namespace KT
open PySem PySem.Spec PyProof.Rows L2
section
variable {X : Cx}
theorem inner_of {pins : List (Addr × Obj)} {σ : L2.St} {H : Hp} {s : Shared} (I : Inv X pins σ H s) : ∀ {as : List Addr} {yss : List (List V)}, Paired (fun (a : Addr) (ys : List V) => H a = some (.lst ys)) as yss →
    ∃ xss : List (List Value), xss.length = as.length ∧ Vals yss.flatten xss.flatten ∧ ∀ (j : Nat) (a : Addr), as[j]? = some a → ∃ (n : Nat) (xs : List Value), xss[j]? = some xs ∧ IsL s.heap a xs.toArray n
  | [], [], .nil => ⟨[], rfl, .nil, fun j a e => by simp at e⟩
  | a :: as, ys :: yss, .cons h t => by
    obtain ⟨xss, h1, h2, h3⟩ := inner_of I t
    obtain ⟨_, its, n, rv, g⟩ := I.hok a _ h
    refine ⟨its :: xss, by simp [h1], by rw [List.flatten_cons, List.flatten_cons]; exact rv.append h2, fun j b e => ?_⟩
    match j, e with
    | 0, e =>
      obtain rfl := Option.some.inj e
      exact ⟨n, its, rfl, g⟩
    | j + 1, e => exact h3 j b (by simpa using e)
/-- sum(xs, []), xs a list of lists, not empty -/
theorem cr_sumL (hc : X.calm = true) : CallR X (.builtin "sum") (fun vs H Q => ∃ (l e : Addr) (as : List Addr) (yss : List (List V)), vs = [.ref l, .ref e] ∧ H l = some (.lst (as.map V.ref)) ∧ H e = some (.lst []) ∧ as ≠ [] ∧
    Paired (fun (a : Addr) (ys : List V) => H a = some (.lst ys)) as yss ∧ yss.flatten.length ≤ sizeLine ∧ ∀ p, H p = none → Q (.ref p) (upd H p (.lst yss.flatten))) := by
  intro pins s σ H vs us Q I r h
  obtain ⟨l, e, as, yss, rfl, hl, he, hne, hp, hz, q⟩ := h
  obtain ⟨u, v, rfl, ru, rv⟩ := vals2 r
  obtain rfl : u = Value.ref l := ru
  obtain rfl : v = Value.ref e := rv
  obtain ⟨zl, its, n, vl, gl⟩ := I.hok l _ hl
  have ei := refs_at vl
  subst ei
  obtain ⟨_, its0, n0, v0, g0⟩ := I.hok e _ he
  cases v0
  obtain ⟨xss, h1, h2, h3⟩ := inner_of I hp
  have ll : (as.map Value.ref).toArray.size = as.length := by simp
  refine call_sumL (I.ok.hd hc) (xss := xss) (PySem.IsL.isList gl) (fun i v hv => ?_) (by rw [ll, h1]) (by rw [← h2.length]; exact hz) g0 fun h' tk T' c' hk hb hT => ?_
  · rw [List.getElem?_toArray, List.getElem?_map] at hv
    obtain ⟨a, ha, rfl⟩ := Option.map_eq_some_iff.mp hv
    obtain ⟨n', xs, e1, e2⟩ := h3 i a ha
    exact ⟨a, n', xs, rfl, e1, e2⟩
  · have le : s.heap.objs.size ≤ T' := by
      rcases hb with ⟨z, _⟩ | z
      · rw [ll] at z
        exact absurd (List.eq_nil_of_length_eq_zero z) hne
      · exact z
    exact ⟨.ref T', upd H T' (.lst yss.flatten), I.laid (t' := tk) hk le (show ObjOk X.prog X.w _ _ _ (.lst yss.flatten) from ⟨hz, xss.flatten, c', h2, hT⟩), rfl, q T' (I.hok.fresh le)⟩
end
/-! ### calls by keyword alone -/
def tCallK0 (sp : Sp) (gV : List V → List V → List V) (E : XK) (tk : TA) : TE := fun σ H Q => tk σ H fun zs H2 => sp (gV [] zs) H2 Q E
section
variable {X : Cx} {CX : CXT} {k : Nat} {f : Addr} {fd : FuncData} {ps ks : List Str} {sp : Sp} {E : XK} {x : Str} {p pos : Pos} {kws : List Keyword} {tk : TA} {g : List Value → List Value → List Value} {gV : List V → List V → List V}
theorem pe_callK0 (F : FnOk X.prog X.w X.K X.mg X.base CX k f fd ps sp) (hr : Room k X.A) (hg : Gl X x) (hm : X.mg x = some (.ref f)) (hk : PySem.W.keepIn X.K (.ref f) = true) (hb : KBinds X.K fd ps ks g gV) (hx : Passes CX X E)
    (hkw : PK X kws tk) (hall : (backToKw pos (keywordEach kws X.env)).all (·.1.isSome) = true := by rfl) (hks : (backToKw pos (keywordEach kws X.env)).filterMap (·.1) = ks := by rfl)
    (hdb : (x == ("__debug__" : Str)) = false := by decide) (hpl : ((backTo pos (starEach [] X.env)).any (·.1) || (backToKw pos (keywordEach kws X.env)).any (·.1.isNone)) = false := by rfl) :
    PE X (.Call (.Name x p) [] kws pos) (tCallK0 sp gV E tk) := by
  refine ⟨fun pins s σ H Q I h => ?_⟩
  refine wpAny_Call_Name_kw (ld_glob I hg hm ?_ hdb)
  refine PySem.W.callWith_KW0 (h₀ := X.base) I.ok.mod.kin hk hall (thn (hkw.run pos pins s σ H _ I h) fun ws s2 ⟨zs, H2, I2, rz, q2⟩ => ⟨I2.kIn, ?_⟩) hpl
  rw [hks]
  exact run_fnk (us := []) F hr hb hx I2 .nil rz q2
/-- nothing by place, the keywords' values in the order of the parameters by f -/
def gK {α : Type} (f : List α → List α) (us ws : List α) : List α := match us with
  | [] => f ws
  | _ => []
theorem kbinds_mk {K : PySem.W.Frag} {q : Str} {st : Stmt} (F : Fun K x q st f fd) (h1 : ps ≠ []) (fo : ∀ {α : Type}, List α → List α)
    (h : ∀ (kV doc pm : Value) (an : Option Addr) (cdv ct : Value) (ws : List Value), (fo ws).length = ps.length → bindArgs (PySem.W.fnOf x q (defArgs st) (defBody st) (defScope st) .none kV doc pm an cdv ct) ⟨[], ks.zip ws⟩ = pure (ps.zip (fo ws)))
    (hr : ∀ {zs : List V} {ws : List Value}, Vals zs ws → Vals (fo zs) (fo ws)) : KBinds K fd ps ks (gK fo) (gK fo) := by
  obtain ⟨oc, od, kV, doc, pm, an, cdv, ct, osl, rfl, lk, hcd⟩ := F.ex
  refine ⟨fun s us ws _ hl => ?_, fun {vs us zs ws} r rz => ?_⟩
  · cases us with
    | nil => exact .of_eq (h kV doc pm an cdv ct ws hl)
    | cons u us =>
      exact absurd (List.eq_nil_of_length_eq_zero (by rw [← hl]; rfl)) h1
  · cases r with
    | nil => exact hr rz
    | cons _ _ => exact .nil
end
end KT

namespace KT
open PySem PySem.Spec PyProof.Rows L2
section
variable {X : Cx}
/-- x in a tuple, data at any depth -/
def rInDT (K : PySem.W.Frag) (neg : Bool) : R2 := fun x y H Q => ∃ d ds, Dp K H x d ∧ Dp K H y (.tuple ds) ∧ SeqAt.shaped d = true ∧ SeqAt.shaped (.tuple ds) = true ∧ Q (.bl (if neg = true then !ds.any fun z => PyData.eqv z d else ds.any fun z => PyData.eqv z d)) H
theorem op_inDT (hu : X.A.units + 65 < cLine) : OpR X (compareOp .In) (rInDT X.K false) := by
  intro pins s σ H x y v u Q I rx ry h
  obtain ⟨d, ds, hd, he, sd, se, q⟩ := h
  obtain ⟨as, r1⟩ := Dp.reads I d x v hd rx
  obtain ⟨bs, r2⟩ := Dp.reads I (.tuple ds) y u he ry
  exact SeqAt.in_tuple_reads r2 r1 (SeqAt.canLay_of_shaped se) (SeqAt.canLay_of_shaped sd) (room_in_shaped sd hu) ⟨.bl _, H, I, rfl, q⟩
end
end KT

namespace U6
open PySem PySem.Spec PyProof.Rows L2 KT
open PySem.W (Frag)
def D.cls : D → String
  | .s _ => "str"
  | .i _ => "int"
  | .o => "NoneType"
  | .t _ => "tuple"
def D.isStr : D → Bool
  | .s _ => true
  | _ => false
def D.isTup : D → Bool
  | .t _ => true
  | _ => false
def D.isInt : D → Bool
  | .i _ => true
  | _ => false
section
variable {K : Frag} {H : Hp} {v : V} {d : D}
theorem DAt.tyx (h : DAt H v d) : TyX K H v (.type d.cls) := by
  cases h with
  | s h => exact .base (.str _)
  | i n => exact .base (.int n)
  | o => exact .base .non
  | t e _ => exact .base (.tup e)
theorem D.kstr (d : D) : PySem.W.kitOne K (.type d.cls) (.type "str") = some d.isStr := by cases d <;> exact kit_ty (by dsimp only [D.cls, D.isStr]; decide +kernel)
theorem D.ktup (d : D) : PySem.W.kitOne K (.type d.cls) (.type "tuple") = some d.isTup := by cases d <;> exact kit_ty (by dsimp only [D.cls, D.isTup]; decide +kernel)
theorem D.kint (d : D) : PySem.W.kitOne K (.type d.cls) (.type "int") = some d.isInt := by cases d <;> exact kit_ty (by dsimp only [D.cls, D.isInt]; decide +kernel)
theorem D.kbool (d : D) : PySem.W.kitOne K (.type d.cls) (.type "bool") = some false := by cases d <;> exact kit_ty (by dsimp only [D.cls]; decide +kernel)
end
section
variable {P : Program} {w : World} {K : Frag} {mg : Str → Option Value} {base : Heap}
def D.isWord : D → Bool
  | .s z => isWB z
  | _ => false
def spIsWordD : Sp := fun vs H Q _ => ∃ v d, vs = [v] ∧ DAt H v d ∧ ∀ H', Same H H' → Q (.bl d.isWord) H'
theorem abc_iff (c : Nat) : decide (c ∈ abc.cps.toList) = (decide (97 ≤ c) && decide (c ≤ 122)) := by
  rw [Bool.eq_iff_iff, decide_eq_true_eq, Bool.and_eq_true, decide_eq_true_eq, decide_eq_true_eq]
  constructor
  · intro h
    have q : ∀ d ∈ abc.cps.toList, 97 ≤ d ∧ d ≤ 122 := by decide +kernel
    exact q c h
  · intro h
    exact abc_mem h.1 h.2
theorem ok_isWordD {f : Addr} {fd : FuncData} (T : Top K mg "is_word" sIsWord pIsWord f fd) (B : Blt mg) (G : Gbl K mg) : FnOk P w K mg base CX0 1 f fd pIsWord spIsWordD := by
  obtain ⟨tl, gl⟩ := G.letters
  refine T.F.ok scIsWord (fun vs H Q E h => ?_) (fun cdv A outer s H vs Q E hr h => ?_)
  · obtain ⟨_, _, rfl, _⟩ := h
    rfl
  · obtain ⟨v, d, rfl, hd, k⟩ := h
    refine ⟨_, (pss_cons (ps_if (PW.pt (pw_or (pt_not (pt_val (pe_callB call_isi (by rfl) B.isi (by decide +kernel) (pa_cons (pv 0) (pa_cons (pe_bltn (v := .ty "str") (by rfl) B.str_ (by decide +kernel) rfl) pa_nil))))) (pw_or1 (pt_not (pt_chain op_le op_le pe_int (pe_callB call_len_str (by rfl) B.len PySem.boot_len (pa_cons (pv 0) pa_nil)) pe_int))))) (pss_one (ps_ret pe_bl)) pss_nil)
      (pss_one (ps_ret (pe_callB (cr_all rfl) (by rfl) B.all (by decide +kernel) (pa_cons (pe_lc (own := [("letter", 1)]) (g := gName 1) (tt := tYes) rfl scIsWord.nd (pi_str (pv 0)) (blkOk_by (N := nIsWord) (sc := defScope sIsWord) (by decide +kernel)) (fun _ _ _ _ _ => pg_name (i := 1) scIsWord.nd rfl (Or.inl rfl)) (fun _ _ _ _ _ => pts_nil) (fun _ _ _ _ _ => (pe_cmpR op_in_sign (pv 1) (pe_glob (v := .str abc) rfl gl ⟨tl, rfl⟩) (by rfl)))) pa_nil))))), ?_⟩
    refine ⟨_, rfl, _, _, _, _, d.isStr, rfl, .ty "str", hd.tyx, d.kstr, _, rfl, ?_⟩
    cases hd with
    | i n => exact iteT (k _ (Same.refl _))
    | o => exact iteT (k _ (Same.refl _))
    | t e h => exact iteT (k _ (Same.refl _))
    | @s z h =>
      have hl := h.2
      refine iteF ⟨_, rfl, _, rfl, by rw [sizeLine_eq]; omega, _, _, rfl, rfl, _, rfl, ?_⟩
      have e0 : (D.s z).isWord = (decide (1 ≤ z.length) && decide (z.length ≤ 8) && z.cps.toList.all fun c => decide (97 ≤ c) && decide (c ≤ 122)) := rfl
      rw [e0] at k
      by_cases c1 : 1 ≤ z.length
      · rw [decide_eq_true (show (1 : Int) ≤ (z.length : Int) by omega)]
        refine iteT ⟨_, _, rfl, rfl, _, rfl, ?_⟩
        by_cases c2 : z.length ≤ 8
        · rw [decide_eq_true (show (z.length : Int) ≤ 8 by omega)]
          refine iteF ⟨_, rfl, _, rfl, fun D hD => ?_⟩
          rw [decide_eq_true c1, decide_eq_true c2, Bool.true_and, Bool.true_and] at k
          refine lc_it walk_str (fun i H' => H' = upd H D (.lst ((z.cps.toList.take i).map fun c => V.bl (decide (c ∈ abc.cps.toList))))) (by rw [List.take_zero]; rfl) (fun _ _ _ _ => trivial) ?_ ?_
          · rintro i x H' H2 hi rfl ⟨rfl, c, hc, rfl⟩
            have hc' : z.cps.toList[i]? = some c := by rw [Array.getElem?_toList]; exact hc
            refine ⟨rfl, _, rfl, c, abc, rfl, rfl, _, upd_same, ?_, ?_⟩
            · rw [List.length_map, List.length_take, sizeLine_eq]
              have : z.cps.size ≤ 100 := hl
              omega
            · rw [upd_upd, List.take_add_one, hc', List.map_append]
              rfl
          · rintro H' rfl
            have lz : z.cps.size = z.cps.toList.length := by simp
            refine ⟨_, z.cps.toList.map fun c => decide (c ∈ abc.cps.toList), rfl, SqL.of (by rw [upd_same, lz, List.take_length, List.map_map]; rfl), ?_⟩
            have e : (z.cps.toList.map fun c => decide (c ∈ abc.cps.toList)).all id = z.cps.toList.all fun c => decide (97 ≤ c) && decide (c ≤ 122) := by
              rw [List.all_map]
              congr 1
              funext c
              exact abc_iff c
            rw [e]
            exact k _ (same_upd hD)
        · rw [decide_eq_false (show ¬ (z.length : Int) ≤ 8 by omega)]
          rw [decide_eq_false c2, Bool.and_false, Bool.false_and] at k
          exact iteT (k _ (Same.refl _))
      · rw [decide_eq_false (show ¬ (1 : Int) ≤ (z.length : Int) by omega)]
        rw [decide_eq_false c1, Bool.false_and, Bool.false_and] at k
        exact iteF ⟨_, rfl, iteT (k _ (Same.refl _))⟩
end
end U6

namespace U6
open PySem PySem.Spec PyProof.Rows L2 KT
open PySem.W (Frag)
theorem hu65 {A : Around} {k : Nat} (hr : Room k A) : A.units + 65 < cLine := by have := hr.un; omega
def D.isSig : D → Bool
  | .t [.s g, _, _] => (sgOf g).isSome
  | _ => false
def D.isKd (d : D) : Bool := d.ty.isSome
theorem signs_any (g : Str) : ([PyData.str "over", .str "then", .str "under"].any fun z => PyData.eqv z (.str g)) = (sgOf g).isSome := by
  have e : ∀ a : Str, PyData.eqv (.str a) (.str g) = decide (g = a) := fun a => by
    simp only [PyData.eqv]
    rw [Bool.eq_iff_iff, beq_iff_eq, decide_eq_true_eq]
    exact eq_comm
  simp only [List.any_cons, List.any_nil, Bool.or_false, e]
  unfold sgOf
  by_cases h1 : g = "over"
  · rw [if_pos h1, decide_eq_true h1]; rfl
  · rw [if_neg h1, decide_eq_false h1]
    by_cases h2 : g = "then"
    · rw [if_pos h2, decide_eq_true h2]; rfl
    · rw [if_neg h2, decide_eq_false h2]
      by_cases h3 : g = "under"
      · rw [if_pos h3, decide_eq_true h3]; rfl
      · rw [if_neg h3, decide_eq_false h3]; rfl
theorem signs_any0 (d : D) (h : d.isStr = false) : ([PyData.str "over", .str "then", .str "under"].any fun z => PyData.eqv z d.py) = false := by
  cases d with
  | s z => cases h
  | i n => simp [D.py, PyData.eqv]
  | o => simp [D.py, PyData.eqv]
  | t l => simp [D.py, PyData.eqv]
theorem isSig_ty {d : D} (h : d.isSig = true) : ∃ g a b, d = .t [.s g, a, b] ∧ d.isKd = (a.isKd && b.isKd) := by
  unfold D.isSig at h
  split at h
  · rename_i g a b
    refine ⟨g, a, b, rfl, ?_⟩
    obtain ⟨g', hg⟩ := Option.isSome_iff_exists.mp h
    simp only [D.isKd, D.ty, tyAll, mkTy]
    cases a.ty <;> cases b.ty <;> simp [hg]
  · cases h
theorem nsig_ty {d : D} (h : d.isSig = false) : d.isKd = d.isWord := by
  cases d with
  | s z =>
    simp only [D.isKd, D.ty, D.isWord]
    cases e : isWB z <;> simp
  | i n => simp [D.isKd, D.ty, D.isWord]
  | o => simp [D.isKd, D.ty, D.isWord]
  | t l =>
    simp only [D.isKd, D.ty, D.isWord]
    cases e : mkTy l (tyAll l) with
    | none => rfl
    | some t =>
      obtain ⟨g, x, y, a, b, rfl, _, _⟩ := mkTy_inv e
      simp [D.isSig, sgOf_str] at h
theorem dep_head {a : D} {r : List D} {n : Nat} (h : (D.t (a :: r)).dep ≤ n + 1) : a.dep ≤ n ∧ depAll r ≤ n := by
  simp only [D.dep, depAll] at h
  omega
section
variable {P : Program} {w : World} {K : Frag} {mg : Str → Option Value} {base : Heap}
def spIsSignedD : Sp := fun vs H Q _ => ∃ v d, vs = [v] ∧ DAt H v d ∧ d.dep ≤ 60 ∧ Q (.bl d.isSig) H
theorem ok_isSignedD {f : Addr} {fd : FuncData} (T : Top K mg "_is_signed" sIsSigned pIsSigned f fd) (B : Blt mg) (G : Gbl K mg) : FnOk P w K mg base CX0 1 f fd pIsSigned spIsSignedD := by
  obtain ⟨sa, gs, hs⟩ := G.signs
  refine T.F.ok scIsSigned (fun vs H Q E h => ?_) (fun cdv A outer s H vs Q E hr h => ?_)
  · obtain ⟨_, _, rfl, _⟩ := h
    rfl
  · obtain ⟨v, d, rfl, hd, hdep, k⟩ := h
    refine ⟨_, pss_one (ps_ret (pe_and (pe_callB call_isi (by rfl) B.isi (by decide +kernel) (pa_cons (pv 0) (pa_cons (pe_bltn (v := .ty "tuple") (by rfl) B.tuple (by decide +kernel) rfl) pa_nil))) (pe_and (pe_cmpR op_eq (pe_callB call_len_seq (by rfl) B.len PySem.boot_len (pa_cons (pv 0) pa_nil)) pe_int (nomark _)) (pe_one (pe_cmpR (KT.op_inDT (hu65 hr)) (pe_ix ix_tup (pv 0) pe_int (fun _ _ => rfl)) (pe_glob (v := .ref sa) rfl gs rfl) (by rfl)))))), ?_⟩
    refine ⟨_, rfl, _, _, _, _, d.isTup, rfl, .ty "tuple", hd.tyx, d.ktup, _, rfl, ?_⟩
    cases hd with
    | s h => exact k
    | i n => exact k
    | o => exact k
    | @t p xs ds e h =>
      have hl := h.length
      refine ⟨_, rfl, p, xs, rfl, .inr (SqT.of e), rfl, _, rfl, ?_⟩
      by_cases c : xs.length = 3
      · rw [decide_eq_true (show (V.int (xs.length : Int)) = V.int 3 by rw [c]; rfl)]
        cases h with
        | nil => simp at c
        | @cons x xs d0 ds h0 h =>
          cases h with
          | nil => simp at c
          | @cons x1 xs d1 ds h1 h =>
            cases h with
            | nil => simp at c
            | @cons x2 xs d2 ds h2 h =>
              cases h with
              | cons _ _ => simp at c
              | nil =>
                have dd := (dep_head (n := 59) hdep).1
                have hp := (DAt.py (K := K) h0).1
                refine ⟨_, rfl, p, _, _, _, rfl, rfl, SqT.of e, atI_nat (j := 0) rfl, d0.py, _, hp, .tup (sqT_any hs) (.cons (.str _) (.cons (.str _) (.cons (.str _) .nil))), DAt.shaped (K := K) h0 (by omega), by decide +kernel, ?_⟩
                rw [if_neg (by decide)]
                cases h0 with
                | s h => rw [show (D.s _).py = PyData.str _ from rfl, signs_any]; exact k
                | i n => rw [signs_any0 _ rfl]; exact k
                | o => rw [signs_any0 _ rfl]; exact k
                | t e h => rw [signs_any0 _ rfl]; exact k
      · rw [decide_eq_false (show ¬ (V.int (xs.length : Int)) = V.int 3 from fun z => c (by injection z with z; omega))]
        have e0 : (D.t ds).isSig = false := by
          unfold D.isSig
          split
          · rename_i g a b heq
            injection heq with heq
            rw [heq] at hl
            exact absurd hl c
          · rfl
        rw [e0] at k
        exact k
def spIsKindD : Sp := fun vs H Q _ => ∃ v d, vs = [v] ∧ DAt H v d ∧ d.dep ≤ 60 ∧ d.size ≤ 1000000 ∧ ∀ H', Same H H' → Q (.bl d.isKd) H'
theorem ok_isKindD {f fs fw : Addr} {fd fds fdw : FuncData} (T : Top K mg "is_kind" sIsKind pIsKind f fd) (TS : Top K mg "_is_signed" sIsSigned pIsSigned fs fds) (TW : Top K mg "is_word" sIsWord pIsWord fw fdw) (B : Blt mg) (G : Gbl K mg) :
    FnOk P w K mg base CX0 2 f fd pIsKind spIsKindD := by
  have GS : FnOk P w K mg base CX0 1 fs fds pIsSigned spIsSignedD := ok_isSignedD TS B G
  have GW : FnOk P w K mg base CX0 1 fw fdw pIsWord spIsWordD := ok_isWordD TW B G
  refine T.F.ok scIsKind (fun vs H Q E h => ?_) (fun cdv A outer s H vs Q E hr h => ?_)
  · obtain ⟨_, _, rfl, _⟩ := h
    rfl
  · obtain ⟨v, d, rfl, hd, hdep, hz, k⟩ := h
    refine ⟨_, (pss_cons (ps_set (i := 1) scIsKind.nd rfl (Or.inl rfl) (pe_lst (pa_cons (pv 0) pa_nil)))
      (pss_cons (ps_while PassesOwn.never (pt_truth (pv 1) (by intro _; rfl))
        (pss_cons (ps_set (i := 2) scIsKind.nd rfl (Or.inl rfl) (pe_bm0 PySem.F.plainAttrs_list PySem.F.slot_list_pop PySem.F.type_list_pop mt_pop (pv 1)))
      (pss_one (ps_if (pt_val (pe_call GS hr rfl TS.g TS.F.kp TS.b .nil pass0 (pa_cons (pv 2) pa_nil))) (pss_one (ps_expr (pe_bm PySem.F.plainAttrs_list PySem.F.slot_list_extend PySem.F.type_list_extend KT.mt_extT (pv 1) (pa_cons (pe_slice sl_tup (pv 2) (po_some pe_int) po_none) pa_nil))))
            (pss_one (ps_if (pt_not (pt_val (pe_call GW hr rfl TW.g TW.F.kp TW.b .nil pass0 (pa_cons (pv 2) pa_nil)))) (pss_one (ps_ret pe_bl)) pss_nil))))))
      (pss_one (ps_ret pe_bl)))), ?_⟩
    refine ⟨v, rfl, by show 1 ≤ sizeLine; rw [sizeLine_eq]; omega, fun W hW => ?_⟩
    refine ⟨fun m σ H' => ∃ (vs : List V) (ds : List D) (v2 : Option V), σ = [some v, some (.ref W), v2] ∧ H' W = some (.lst vs.reverse) ∧ DsAt H' vs ds ∧ sizeAll ds = m ∧ m ≤ 1000000 ∧ (∀ u ∈ ds, u.dep ≤ 60) ∧ d.isKd = ds.all D.isKd ∧ Same H H',
      ⟨d.size, [v], [d], none, rfl, upd_same, .cons (hd.mono (TK.upd_new hW)) .nil, by simp [sizeAll], hz, fun u hu => by rw [List.mem_singleton.mp hu]; exact hdep, by simp, same_upd hW⟩, ?_⟩
    rintro m σ H1 ⟨vs, ds, v2, rfl, hL, hT, rfl, hm, hdp, hall, hs⟩
    refine ⟨_, rfl, _, .inl ⟨_, SqL.of hL, rfl⟩, ?_⟩
    cases hT with
    | nil =>
      have q := k H1 hs
      rw [hall] at q
      exact iteF q
    | @cons y vs u ds h1 h2 =>
      have el : (y :: vs).reverse = vs.reverse ++ [y] := List.reverse_cons
      have c : (!(y :: vs).reverse.isEmpty) = true := by rw [el]; simp
      rw [c]
      have hm' : u.size + sizeAll ds ≤ 1000000 := hm
      have up := u.size_pos
      refine iteT ⟨fun σ' H' => ∃ m' < sizeAll (u :: ds), ∃ (vs : List V) (ds : List D) (v2 : Option V), σ' = [some v, some (.ref W), v2] ∧ H' W = some (.lst vs.reverse) ∧ DsAt H' vs ds ∧ sizeAll ds = m' ∧ m' ≤ 1000000 ∧ (∀ u ∈ ds, u.dep ≤ 60) ∧ d.isKd = ds.all D.isKd ∧ Same H H', fun σ' H' q => q, ?_⟩
      refine ⟨_, rfl, .inl ⟨rfl, _, SqL.of hL⟩, W, _, y, rfl, rfl, hL, by rw [el]; simp, ?_⟩
      have ed : (y :: vs).reverse.dropLast = vs.reverse := by rw [el]; simp
      rw [ed]
      have tk : TK H1 (upd H1 W (.lst vs.reverse)) := TK.upd_lst hL
      have hs' : Same H (upd H1 W (.lst vs.reverse)) := same_over hs hW
      have h1' := h1.mono tk
      rw [List.all_cons] at hall
      refine ⟨y, rfl, y, u, rfl, h1', hdp u List.mem_cons_self, _, rfl, ?_⟩
      cases sg : u.isSig with
      | false =>
        refine iteF ⟨_, rfl, y, u, rfl, h1', fun H2 s2 => ⟨_, rfl, ?_⟩⟩
        rw [nsig_ty sg] at hall
        cases ww : u.isWord with
        | false =>
          rw [ww, Bool.false_and] at hall
          have q := k H2 (hs'.trans s2)
          rw [hall] at q
          exact iteT q
        | true =>
          rw [ww, Bool.true_and] at hall
          exact iteF ⟨sizeAll ds, by show _ < u.size + sizeAll ds; omega, vs, ds, _, rfl, s2 _ _ upd_same, h2.mono (tk.trans (TK.of_same s2)), rfl, by omega, fun z hz => hdp z (List.mem_cons_of_mem _ hz), hall, hs'.trans s2⟩
      | true =>
        obtain ⟨g, a, b, rfl, ek⟩ := isSig_ty sg
        rw [ek] at hall
        have dd := hdp _ List.mem_cons_self
        have da : a.dep ≤ 60 ∧ b.dep ≤ 60 := by
          simp only [D.dep, depAll] at dd
          omega
        have sz : (D.t [.s g, a, b]).size = a.size + b.size + 2 := by simp only [D.size, sizeAll]; omega
        cases h1 with
        | @t p xs _ e h =>
          cases h with
          | @cons x0 xs _ _ k0 h => cases h with
            | @cons x1 xs _ _ k1 h => cases h with
              | @cons x2 xs _ _ k2 h => cases h with
                | nil =>
                  refine iteT ⟨_, rfl, .inl ⟨rfl, _, SqL.of upd_same⟩, _, rfl, _, rfl, p, _, rfl, SqT.of (tk _ _ e), cut_not, fun p' hp => ?_⟩
                  have np : W ≠ p' := ne_of_none upd_same hp
                  have l1 := h2.length
                  have l2 : ds.length ≤ sizeAll ds := by
                    clear hm hm' hall hdp h2 sz k hs l1
                    induction ds with
                    | nil => exact Nat.zero_le _
                    | cons z r ih =>
                      have := z.size_pos
                      simp only [List.length_cons, sizeAll]
                      omega
                  refine ⟨W, p', _, _, rfl, rfl, by rw [upd_ne np, upd_same], SqT.of upd_same, ?_, ?_⟩
                  · show vs.reverse.length + 2 ≤ sizeLine
                    rw [List.length_reverse, sizeLine_eq]
                    omega
                  · have tk2 : TK H1 (upd (upd (upd H1 W (.lst vs.reverse)) p' (.tup [x1, x2])) W (.lst (vs.reverse ++ [x1, x2]))) := (tk.trans (TK.upd_new hp)).trans (TK.upd_lst (by rw [upd_ne np, upd_same]))
                    refine ⟨b.size + (a.size + sizeAll ds), ?_, x2 :: x1 :: vs, b :: a :: ds, _, rfl, ?_, .cons (k2.mono tk2) (.cons (k1.mono tk2) (h2.mono tk2)), rfl, ?_, ?_, ?_, ?_⟩
                    · show _ < (D.t [.s g, a, b]).size + sizeAll ds
                      omega
                    · rw [upd_same]
                      simp
                      rfl
                    · omega
                    · intro z hz
                      rcases List.mem_cons.mp hz with rfl | hz
                      · exact da.2
                      · rcases List.mem_cons.mp hz with rfl | hz
                        · exact da.1
                        · exact hdp z (List.mem_cons_of_mem _ hz)
                    · rw [hall, List.all_cons, List.all_cons, ← Bool.and_assoc, Bool.and_comm b.isKd]
                    · exact same_over (hs'.trans (same_upd hp)) hW
end
end U6

namespace U6
open PySem PySem.Spec PyProof.Rows L2 KT
open PySem.W (Frag)
/-! ### the form of knots -/
inductive Fm : D → Prop
  | is {x : D} : x.isKd = true → Fm (.t [.s "is", x])
  | om {x : D} : Fm (.t [.s "over made", x])
  | um {x : D} : Fm (.t [.s "under made", x])
  | tm {x y : D} : Fm (.t [.s "then made", x, y])
  | tu {p : Int} {y : D} : 0 ≤ p → Fm (.t [.s "then used", .i p, y])
  | ou {p : Int} {x y : D} : 0 ≤ p → Fm (.t [.s "over used", .i p, x, y])
  | uu {p : Int} {x y : D} : 0 ≤ p → Fm (.t [.s "under used", .i p, x, y])
  | ct {p : Int} {x y : D} : 0 ≤ p → Fm (.t [.s "cut", .i p, x, y])
theorem fm_of {u : D} (h : u.formed = true) : Fm u := by
  unfold D.formed at h
  split at h
  · rename_i nm x
    split at h
    · rename_i e
      subst e
      exact .is h
    · rw [Bool.or_eq_true, decide_eq_true_eq, decide_eq_true_eq] at h
      rcases h with e | e
      · subst e; exact .om
      · subst e; exact .um
  · rename_i nm x y
    rw [Bool.or_eq_true, Bool.and_eq_true, decide_eq_true_eq, decide_eq_true_eq] at h
    rcases h with e | ⟨e, h⟩
    · subst e; exact .tm
    · subst e
      split at h
      · exact .tu (of_decide_eq_true h)
      · cases h
  · rename_i nm x y z
    rw [Bool.and_eq_true] at h
    obtain ⟨h1, h2⟩ := h
    split at h2
    · have hp := of_decide_eq_true h2
      unfold placed at h1
      rw [Bool.or_eq_true, Bool.or_eq_true, decide_eq_true_eq, decide_eq_true_eq, decide_eq_true_eq] at h1
      rcases h1 with (e | e) | e
      · subst e; exact .ou hp
      · subst e; exact .uu hp
      · subst e; exact .ct hp
    · cases h2
  · cases h
theorem Fm.formed {u : D} (h : Fm u) : u.formed = true := by
  cases h with
  | is h => exact h
  | om => rfl
  | um => rfl
  | tm => rfl
  | tu h => simp [D.formed, h]
  | ou h => simp [D.formed, h, placed]
  | uu h => simp [D.formed, h, placed]
  | ct h => simp [D.formed, h, placed]
def PL : List Str := ["over used", "under used", "then used", "cut"]
/-- where a knot's parts stand -/
theorem Fm.head {u : D} (h : Fm u) : ∃ nm r, u = .t (.s nm :: r) ∧ TxtOk nm ∧ u.parts = if nm = "is" then [] else r.drop (if nm ∈ PL then 1 else 0) := by
  cases h with
  | is h => exact ⟨_, _, rfl, ⟨by decide +kernel, by decide +kernel⟩, rfl⟩
  | om => exact ⟨_, _, rfl, ⟨by decide +kernel, by decide +kernel⟩, rfl⟩
  | um => exact ⟨_, _, rfl, ⟨by decide +kernel, by decide +kernel⟩, rfl⟩
  | tm => exact ⟨_, _, rfl, ⟨by decide +kernel, by decide +kernel⟩, rfl⟩
  | tu h => exact ⟨_, _, rfl, ⟨by decide +kernel, by decide +kernel⟩, rfl⟩
  | ou h => exact ⟨_, _, rfl, ⟨by decide +kernel, by decide +kernel⟩, rfl⟩
  | uu h => exact ⟨_, _, rfl, ⟨by decide +kernel, by decide +kernel⟩, rfl⟩
  | ct h => exact ⟨_, _, rfl, ⟨by decide +kernel, by decide +kernel⟩, rfl⟩
theorem allK_fm {u : D} (h : u.allK = true) : Fm u ∧ ∀ p ∈ u.parts, p.allK = true := by
  cases u with
  | s z => cases h
  | i n => cases h
  | o => cases h
  | t l =>
    simp only [D.allK, allKOf, Bool.and_eq_true] at h
    obtain ⟨h1, h2⟩ := h
    have f := fm_of h1
    refine ⟨f, ?_⟩
    cases f with
    | is _ => intro p hp; cases hp
    | om => intro p hp; rw [List.mem_singleton.mp hp]; exact h2
    | um => intro p hp; rw [List.mem_singleton.mp hp]; exact h2
    | tm =>
      have h2 : (_ && _) = true := h2
      rw [Bool.and_eq_true] at h2
      intro p hp
      rcases List.mem_cons.mp hp with rfl | hp
      · exact h2.1
      · rw [List.mem_singleton.mp hp]; exact h2.2
    | tu _ => intro p hp; rw [List.mem_singleton.mp hp]; exact h2
    | ou _ =>
      have h2 : (_ && _) = true := h2
      rw [Bool.and_eq_true] at h2
      intro p hp
      rcases List.mem_cons.mp hp with rfl | hp
      · exact h2.1
      · rw [List.mem_singleton.mp hp]; exact h2.2
    | uu _ =>
      have h2 : (_ && _) = true := h2
      rw [Bool.and_eq_true] at h2
      intro p hp
      rcases List.mem_cons.mp hp with rfl | hp
      · exact h2.1
      · rw [List.mem_singleton.mp hp]; exact h2.2
    | ct _ =>
      have h2 : (_ && _) = true := h2
      rw [Bool.and_eq_true] at h2
      intro p hp
      rcases List.mem_cons.mp hp with rfl | hp
      · exact h2.1
      · rw [List.mem_singleton.mp hp]; exact h2.2
theorem fm_allK {u : D} (f : Fm u) (h : ∀ p ∈ u.parts, p.allK = true) : u.allK = true := by
  have h1 := f.formed
  cases f with
  | is _ => simp only [D.allK, allKOf, h1, Bool.true_and]; rfl
  | om => simp only [D.allK, allKOf, h1, Bool.true_and]; exact h _ List.mem_cons_self
  | um => simp only [D.allK, allKOf, h1, Bool.true_and]; exact h _ List.mem_cons_self
  | tm => simp only [D.allK, allKOf, h1, Bool.true_and]; exact Bool.and_eq_true_iff.mpr ⟨h _ List.mem_cons_self, h _ (List.mem_cons_of_mem _ List.mem_cons_self)⟩
  | tu _ => simp only [D.allK, allKOf, h1, Bool.true_and]; exact h _ List.mem_cons_self
  | ou _ => simp only [D.allK, allKOf, h1, Bool.true_and]; exact Bool.and_eq_true_iff.mpr ⟨h _ List.mem_cons_self, h _ (List.mem_cons_of_mem _ List.mem_cons_self)⟩
  | uu _ => simp only [D.allK, allKOf, h1, Bool.true_and]; exact Bool.and_eq_true_iff.mpr ⟨h _ List.mem_cons_self, h _ (List.mem_cons_of_mem _ List.mem_cons_self)⟩
  | ct _ => simp only [D.allK, allKOf, h1, Bool.true_and]; exact Bool.and_eq_true_iff.mpr ⟨h _ List.mem_cons_self, h _ (List.mem_cons_of_mem _ List.mem_cons_self)⟩
def nodesAll : List D → List D
  | [] => []
  | d :: r => d.nodes ++ nodesAll r
theorem Fm.nodes {u : D} (f : Fm u) : u.nodes = u :: nodesAll u.parts.reverse := by
  have e1 : ("over made" : Str) ≠ "is" := by decide
  have e2 : ("under made" : Str) ≠ "is" := by decide
  have e3 : ("then made" : Str) ≠ "then used" := by decide
  cases f <;> simp [D.nodes, nodesOf, nodesLs, D.parts, nodesAll, e1, e2, e3]
theorem Fm.psize {u : D} (f : Fm u) : sizeAll u.parts < u.size ∧ u.parts.length ≤ 2 := by
  have e1 : ("over made" : Str) ≠ "is" := by decide
  have e2 : ("under made" : Str) ≠ "is" := by decide
  have e3 : ("then made" : Str) ≠ "then used" := by decide
  cases f <;> simp [D.parts, D.size, sizeAll, e1, e2, e3] <;> omega
theorem sizeAll_app : ∀ l r : List D, sizeAll (l ++ r) = sizeAll l + sizeAll r
  | [], r => by simp [sizeAll]
  | d :: l, r => by simp only [List.cons_append, sizeAll, sizeAll_app l r]; omega
theorem sizeAll_rev (l : List D) : sizeAll l.reverse = sizeAll l := by
  induction l with
  | nil => rfl
  | cons d r ih => rw [List.reverse_cons, sizeAll_app, ih]; simp only [sizeAll]; omega
theorem len_size : ∀ l : List D, l.length ≤ sizeAll l
  | [] => Nat.zero_le _
  | d :: r => by
    have := d.size_pos
    have := len_size r
    simp only [List.length_cons, sizeAll]
    omega
theorem nodesAll_app : ∀ l r : List D, nodesAll (l ++ r) = nodesAll l ++ nodesAll r
  | [], r => rfl
  | d :: l, r => by simp only [List.cons_append, nodesAll, nodesAll_app l r, List.append_assoc]
theorem DsAt.drop {H : Hp} {vs : List V} {ds : List D} (h : DsAt H vs ds) : ∀ n, DsAt H (vs.drop n) (ds.drop n) := by
  intro n
  induction n generalizing vs ds with
  | zero => exact h
  | succ n ih =>
    cases h with
    | nil => exact .nil
    | cons a r => exact ih r
theorem DsAt.rev {H : Hp} {vs : List V} {ds : List D} (h : DsAt H vs ds) : DsAt H vs.reverse ds.reverse := by
  induction ds generalizing vs with
  | nil => cases h; exact .nil
  | cons d r ih =>
    cases h with
    | cons a s => rw [List.reverse_cons, List.reverse_cons]; exact (ih s).append (.cons a .nil)
theorem cutV_from {xs : List V} {b : Nat} : cutV xs (some (b : Int)) none = xs.drop b := by
  unfold cutV
  rw [HT.sIx_nat]
  have e : HT.sIx xs.length xs.length none = xs.length := rfl
  rw [e]
  by_cases h : b ≤ xs.length
  · rw [Nat.min_eq_left h]
    exact List.take_of_length_le (by simp)
  · rw [Nat.min_eq_right (by omega), List.drop_of_length_le (by omega : xs.length ≤ b), Nat.sub_self, List.take_zero]
/-- the module's own tables -/
structure Gb5 (K : Frag) (w : World) (mg : Str → Option Value) : Prop where
  pl : ∃ a, mg "_PLACED" = some (.ref a) ∧ SqT K (fun _ => none) a (PL.map V.str)
section
variable {P : Program} {w : World} {K : Frag} {mg : Str → Option Value} {base : Heap}
def spBegin : Sp := fun vs H Q _ => ∃ nm, vs = [.str nm] ∧ Q (.int ((if nm ∈ PL then 2 else 1 : Nat) : Int)) H
theorem ok_begin {f : Addr} {fd : FuncData} (T : Top K mg "_parts_begin" sPartsBegin pPartsBegin f fd) (G : Gb5 K w mg) : FnOk P w K mg base CX0 1 f fd pPartsBegin spBegin := by
  obtain ⟨sa, gs, hs⟩ := G.pl
  refine T.F.ok scPartsBegin (fun vs H Q E h => ?_) (fun cdv A outer s H vs Q E hr h => ?_)
  · obtain ⟨_, rfl, _⟩ := h
    rfl
  · obtain ⟨nm, rfl, k⟩ := h
    refine ⟨_, pss_one (ps_ret (pe_ifExp (pt_cmpR op_in_seq (pv 0) (pe_glob (v := .ref sa) rfl gs rfl) (by rfl)) pe_int pe_int)), ?_⟩
    refine ⟨_, rfl, sa, _, rfl, .inr (sqT_any hs), rfl, flat_map PL, _, rfl, ?_⟩
    rw [if_neg (by decide), inV_str]
    by_cases c : nm ∈ PL
    · rw [if_pos c] at k
      rw [decide_eq_true c]
      exact iteT k
    · rw [if_neg c] at k
      rw [decide_eq_false c]
      exact iteF k
def spPartsK : Sp := fun vs H Q _ => ∃ v u, vs = [v] ∧ DAt H v u ∧ Fm u ∧ ∀ p us, H p = none → DsAt H us u.parts → Q (.ref p) (upd H p (.tup us))
theorem ok_partsK {f fb : Addr} {fd fdb : FuncData} (T : Top K mg "parts_of_knot" sPartsOfKnot pPartsOfKnot f fd) (TB : Top K mg "_parts_begin" sPartsBegin pPartsBegin fb fdb) (G : Gb5 K w mg) : FnOk P w K mg base CX0 2 f fd pPartsOfKnot spPartsK := by
  have GB : FnOk P w K mg base CX0 1 fb fdb pPartsBegin spBegin := ok_begin TB G
  refine T.F.ok scPartsOfKnot (fun vs H Q E h => ?_) (fun cdv A outer s H vs Q E hr h => ?_)
  · obtain ⟨_, _, rfl, _⟩ := h
    rfl
  · obtain ⟨v, u, rfl, hd, f, k⟩ := h
    refine ⟨_, pss_one (ps_ret (pe_ifExp (pt_cmpR op_eq (pe_ix ix_tup (pv 0) pe_int (fun _ _ => rfl)) pe_str (nomark _)) (pe_tup pa_nil) (pe_slice sl_tup (pv 0) (po_some (pe_call GB hr rfl TB.g TB.F.kp TB.b .nil pass0 (pa_cons (pe_ix ix_tup (pv 0) pe_int (fun _ _ => rfl)) pa_nil))) po_none))), ?_⟩
    obtain ⟨nm, r, rfl, ok, ep⟩ := f.head
    rw [ep] at k
    cases hd with
    | @t p xs _ e h =>
      cases h with
      | @cons x xs _ _ h0 h =>
        cases h0
        refine ⟨_, rfl, p, _, _, _, rfl, rfl, SqT.of e, atI_nat (j := 0) rfl, rfl, _, rfl, ?_⟩
        by_cases c : nm = "is"
        · rw [if_pos c] at k
          rw [decide_eq_true (show V.str nm = V.str "is" by rw [c])]
          exact iteT ⟨Nat.zero_le _, fun q hq => k q [] hq .nil⟩
        · rw [if_neg c] at k
          rw [decide_eq_false (show ¬ V.str nm = V.str "is" from fun z => c (by injection z))]
          refine iteF ⟨_, rfl, _, rfl, p, _, _, _, rfl, rfl, SqT.of e, atI_nat (j := 0) rfl, nm, rfl, _, rfl, ?_⟩
          refine ⟨p, _, rfl, SqT.of e, ?_, fun q hq => ?_⟩
          · rintro ⟨z, _⟩
            rw [HT.sIx_nat] at z
            simp only [List.length_cons] at z
            split at z <;> omega
          · rw [cutV_from]
            refine k q _ hq ?_
            have q2 := h.drop (if nm ∈ PL then 1 else 0)
            have e2 : ∀ (α : Type) (a : α) (l : List α), (a :: l).drop (if nm ∈ PL then 2 else 1) = l.drop (if nm ∈ PL then 1 else 0) := fun α a l => by split <;> rfl
            rw [e2]
            exact q2
end
end U6

namespace U6
open PySem PySem.Spec PyProof.Rows L2 KT
open PySem.W (Frag)
@[simp] theorem nm01 : (("is" : Str) = "over made") = False := eq_false (by decide)
@[simp] theorem nm02 : (("is" : Str) = "under made") = False := eq_false (by decide)
@[simp] theorem nm03 : (("is" : Str) = "then made") = False := eq_false (by decide)
@[simp] theorem nm04 : (("is" : Str) = "over used") = False := eq_false (by decide)
@[simp] theorem nm05 : (("is" : Str) = "under used") = False := eq_false (by decide)
@[simp] theorem nm06 : (("is" : Str) = "then used") = False := eq_false (by decide)
@[simp] theorem nm07 : (("is" : Str) = "cut") = False := eq_false (by decide)
@[simp] theorem nm10 : (("over made" : Str) = "is") = False := eq_false (by decide)
@[simp] theorem nm12 : (("over made" : Str) = "under made") = False := eq_false (by decide)
@[simp] theorem nm13 : (("over made" : Str) = "then made") = False := eq_false (by decide)
@[simp] theorem nm14 : (("over made" : Str) = "over used") = False := eq_false (by decide)
@[simp] theorem nm15 : (("over made" : Str) = "under used") = False := eq_false (by decide)
@[simp] theorem nm16 : (("over made" : Str) = "then used") = False := eq_false (by decide)
@[simp] theorem nm17 : (("over made" : Str) = "cut") = False := eq_false (by decide)
@[simp] theorem nm20 : (("under made" : Str) = "is") = False := eq_false (by decide)
@[simp] theorem nm21 : (("under made" : Str) = "over made") = False := eq_false (by decide)
@[simp] theorem nm23 : (("under made" : Str) = "then made") = False := eq_false (by decide)
@[simp] theorem nm24 : (("under made" : Str) = "over used") = False := eq_false (by decide)
@[simp] theorem nm25 : (("under made" : Str) = "under used") = False := eq_false (by decide)
@[simp] theorem nm26 : (("under made" : Str) = "then used") = False := eq_false (by decide)
@[simp] theorem nm27 : (("under made" : Str) = "cut") = False := eq_false (by decide)
@[simp] theorem nm30 : (("then made" : Str) = "is") = False := eq_false (by decide)
@[simp] theorem nm31 : (("then made" : Str) = "over made") = False := eq_false (by decide)
@[simp] theorem nm32 : (("then made" : Str) = "under made") = False := eq_false (by decide)
@[simp] theorem nm34 : (("then made" : Str) = "over used") = False := eq_false (by decide)
@[simp] theorem nm35 : (("then made" : Str) = "under used") = False := eq_false (by decide)
@[simp] theorem nm36 : (("then made" : Str) = "then used") = False := eq_false (by decide)
@[simp] theorem nm37 : (("then made" : Str) = "cut") = False := eq_false (by decide)
@[simp] theorem nm40 : (("over used" : Str) = "is") = False := eq_false (by decide)
@[simp] theorem nm41 : (("over used" : Str) = "over made") = False := eq_false (by decide)
@[simp] theorem nm42 : (("over used" : Str) = "under made") = False := eq_false (by decide)
@[simp] theorem nm43 : (("over used" : Str) = "then made") = False := eq_false (by decide)
@[simp] theorem nm45 : (("over used" : Str) = "under used") = False := eq_false (by decide)
@[simp] theorem nm46 : (("over used" : Str) = "then used") = False := eq_false (by decide)
@[simp] theorem nm47 : (("over used" : Str) = "cut") = False := eq_false (by decide)
@[simp] theorem nm50 : (("under used" : Str) = "is") = False := eq_false (by decide)
@[simp] theorem nm51 : (("under used" : Str) = "over made") = False := eq_false (by decide)
@[simp] theorem nm52 : (("under used" : Str) = "under made") = False := eq_false (by decide)
@[simp] theorem nm53 : (("under used" : Str) = "then made") = False := eq_false (by decide)
@[simp] theorem nm54 : (("under used" : Str) = "over used") = False := eq_false (by decide)
@[simp] theorem nm56 : (("under used" : Str) = "then used") = False := eq_false (by decide)
@[simp] theorem nm57 : (("under used" : Str) = "cut") = False := eq_false (by decide)
@[simp] theorem nm60 : (("then used" : Str) = "is") = False := eq_false (by decide)
@[simp] theorem nm61 : (("then used" : Str) = "over made") = False := eq_false (by decide)
@[simp] theorem nm62 : (("then used" : Str) = "under made") = False := eq_false (by decide)
@[simp] theorem nm63 : (("then used" : Str) = "then made") = False := eq_false (by decide)
@[simp] theorem nm64 : (("then used" : Str) = "over used") = False := eq_false (by decide)
@[simp] theorem nm65 : (("then used" : Str) = "under used") = False := eq_false (by decide)
@[simp] theorem nm67 : (("then used" : Str) = "cut") = False := eq_false (by decide)
@[simp] theorem nm70 : (("cut" : Str) = "is") = False := eq_false (by decide)
@[simp] theorem nm71 : (("cut" : Str) = "over made") = False := eq_false (by decide)
@[simp] theorem nm72 : (("cut" : Str) = "under made") = False := eq_false (by decide)
@[simp] theorem nm73 : (("cut" : Str) = "then made") = False := eq_false (by decide)
@[simp] theorem nm74 : (("cut" : Str) = "over used") = False := eq_false (by decide)
@[simp] theorem nm75 : (("cut" : Str) = "under used") = False := eq_false (by decide)
@[simp] theorem nm76 : (("cut" : Str) = "then used") = False := eq_false (by decide)
def MANY (z : Str) : Option Nat := if z = "is" then some 0 else if z = "over made" then some 1 else if z = "under made" then some 1 else if z = "then made" then some 2 else if z = "over used" then some 2 else if z = "under used" then some 2 else if z = "then used" then some 1 else if z = "cut" then some 2 else none
def D.isCnt : D → Bool
  | .i n => decide (0 ≤ n)
  | _ => false
/-- the same, as the program asks it -/
def formB (nm : Str) (r : List D) : Bool := match MANY nm with
  | none => false
  | some m => if nm = "is" then decide (r.length = 1) && (r.getD 0 .o).isKd else if 1 + r.length = (if nm ∈ PL then 2 else 1) + m then !decide (nm ∈ PL) || (r.getD 0 .o).isCnt else false
theorem formed_eq (nm : Str) (r : List D) : (D.t (.s nm :: r)).formed = formB nm r := by
  unfold formB
  by_cases h1 : nm = "is"
  · subst h1
    rcases r with _ | ⟨a, _ | ⟨b, _ | ⟨c, _ | ⟨d, r⟩⟩⟩⟩ <;> simp [D.formed, MANY, D.isKd, placed]
  by_cases h2 : nm = "over made"
  · subst h2
    rcases r with _ | ⟨a, _ | ⟨b, _ | ⟨c, _ | ⟨d, r⟩⟩⟩⟩ <;> simp [D.formed, MANY, PL, placed] <;> omega
  by_cases h3 : nm = "under made"
  · subst h3
    rcases r with _ | ⟨a, _ | ⟨b, _ | ⟨c, _ | ⟨d, r⟩⟩⟩⟩ <;> simp [D.formed, MANY, PL, placed] <;> omega
  by_cases h4 : nm = "then made"
  · subst h4
    rcases r with _ | ⟨a, _ | ⟨b, _ | ⟨c, _ | ⟨d, r⟩⟩⟩⟩ <;> simp [D.formed, MANY, PL, placed] <;> omega
  by_cases h5 : nm = "over used"
  · subst h5
    rcases r with _ | ⟨a, _ | ⟨b, _ | ⟨c, _ | ⟨d, r⟩⟩⟩⟩ <;> simp [D.formed, MANY, PL, placed] <;> first | (intro z; omega) | (cases a <;> simp [D.isCnt])
  by_cases h6 : nm = "under used"
  · subst h6
    rcases r with _ | ⟨a, _ | ⟨b, _ | ⟨c, _ | ⟨d, r⟩⟩⟩⟩ <;> simp [D.formed, MANY, PL, placed] <;> first | (intro z; omega) | (cases a <;> simp [D.isCnt])
  by_cases h7 : nm = "then used"
  · subst h7
    rcases r with _ | ⟨a, _ | ⟨b, _ | ⟨c, _ | ⟨d, r⟩⟩⟩⟩ <;> simp [D.formed, MANY, PL, placed] <;> first | (intro z; omega) | (cases a <;> simp [D.isCnt])
  by_cases h8 : nm = "cut"
  · subst h8
    rcases r with _ | ⟨a, _ | ⟨b, _ | ⟨c, _ | ⟨d, r⟩⟩⟩⟩ <;> simp [D.formed, MANY, PL, placed] <;> first | (intro z; omega) | (cases a <;> simp [D.isCnt])
  rcases r with _ | ⟨a, _ | ⟨b, _ | ⟨c, _ | ⟨d, r⟩⟩⟩⟩ <;> simp [D.formed, MANY, placed, h1, h2, h3, h4, h5, h6, h7, h8]
structure Gm5 (K : Frag) (w : World) (mg : Str → Option Value) : Prop where
  many : ∃ d es n, mg "_MANY_PARTS" = some (.ref d) ∧ KDict K w d es n ∧ ∀ z, ∃ r, PySem.W.nsIn K d z = some r ∧ r.isSome = (MANY z).isSome ∧ ∀ u, r = some u → ∃ m, MANY z = some m ∧ RelV (.int (m : Nat)) u
section
variable {P : Program} {w : World} {K : Frag} {mg : Str → Option Value} {base : Heap}
def spIsCountD : Sp := fun vs H Q _ => ∃ v d, vs = [v] ∧ DAt H v d ∧ Q (.bl d.isCnt) H
theorem ok_isCountD {f : Addr} {fd : FuncData} (T : Top K mg "is_count" sIsCount pIsCount f fd) (B : Blt mg) : FnOk P w K mg base CX0 1 f fd pIsCount spIsCountD := by
  refine T.F.ok scIsCount (fun vs H Q E h => ?_) (fun cdv A outer s H vs Q E hr h => ?_)
  · obtain ⟨_, _, rfl, _⟩ := h
    rfl
  · obtain ⟨v, d, rfl, hd, k⟩ := h
    refine ⟨_, pss_one (ps_ret (pe_and (pe_callB call_isi (by rfl) B.isi (by decide +kernel) (pa_cons (pv 0) (pa_cons (pe_bltn (v := .ty "int") (by rfl) B.int (by decide +kernel) rfl) pa_nil))) (pe_and (pe_not (pe_callB call_isi (by rfl) B.isi (by decide +kernel) (pa_cons (pv 0) (pa_cons (pe_bltn (v := .ty "bool") (by rfl) B.bool_ (by decide +kernel) rfl) pa_nil)))) (pe_one (pe_cmpR op_ge (pv 0) pe_int (nomark _)))))), ?_⟩
    refine ⟨_, rfl, _, _, _, _, d.isInt, rfl, .ty "int", hd.tyx, d.kint, _, rfl, ?_⟩
    cases hd with
    | s h => exact k
    | o => exact k
    | t e h => exact k
    | i n => exact ⟨_, rfl, _, _, _, _, false, rfl, .ty "bool", .base (.int n), kit_ty (by decide +kernel), false, rfl, true, rfl, _, rfl, _, _, rfl, rfl, k⟩
theorem formed_nstr {a : D} {r : List D} (h : a.isStr = false) : (D.t (a :: r)).formed = false := by
  cases a with
  | s z => cases h
  | i n => rcases r with _ | ⟨a, _ | ⟨b, _ | ⟨c, _ | ⟨d, r⟩⟩⟩⟩ <;> rfl
  | o => rcases r with _ | ⟨a, _ | ⟨b, _ | ⟨c, _ | ⟨d, r⟩⟩⟩⟩ <;> rfl
  | t l => rcases r with _ | ⟨a, _ | ⟨b, _ | ⟨c, _ | ⟨d, r⟩⟩⟩⟩ <;> rfl
theorem many_is {nm : Str} (h : nm = "is") : MANY nm = some 0 := by rw [h]; decide
def spHasForm : Sp := fun vs H Q _ => ∃ v d, vs = [v] ∧ DAt H v d ∧ d.dep ≤ 60 ∧ d.size ≤ 1000000 ∧ ∀ H', Same H H' → Q (.bl d.formed) H'
theorem ok_hasForm {f fk fb fc : Addr} {fd fdk fdb fdc : FuncData} (T : Top K mg "_has_form" sHasForm pHasForm f fd) (TK_ : Top K mg "is_kind" sIsKind pIsKind fk fdk) (TB : Top K mg "_parts_begin" sPartsBegin pPartsBegin fb fdb) (TC : Top K mg "is_count" sIsCount pIsCount fc fdc)
    (GK : FnOk P w K mg base CX0 2 fk fdk pIsKind spIsKindD) (B : Blt mg) (G : Gb5 K w mg) (M : Gm5 K w mg) : FnOk P w K mg base CX0 3 f fd pHasForm spHasForm := by
  have GB : FnOk P w K mg base CX0 1 fb fdb pPartsBegin spBegin := ok_begin TB G
  have GC : FnOk P w K mg base CX0 1 fc fdc pIsCount spIsCountD := ok_isCountD TC B
  obtain ⟨sa, gs, hs⟩ := G.pl
  obtain ⟨dd, es, n, gd, KD, hM⟩ := M.many
  refine T.F.ok scHasForm (fun vs H Q E h => ?_) (fun cdv A outer s H vs Q E hr h => ?_)
  · obtain ⟨_, _, rfl, _⟩ := h
    rfl
  · obtain ⟨v, d, rfl, hd, hdep, hz, k⟩ := h
    have hr1 : Room 1 _ := hr.mono (by decide)
    refine ⟨_, (pss_cons (ps_if (PW.pt (pw_or (pt_not (pt_val (pe_callB call_isi (by rfl) B.isi (by decide +kernel) (pa_cons (pv 0) (pa_cons (pe_bltn (v := .ty "tuple") (by rfl) B.tuple (by decide +kernel) rfl) pa_nil))))) (pw_or1 (pt_not (pt_truth (pv 0) (by intro _; rfl)))))) (pss_one (ps_ret pe_bl)) pss_nil)
      (pss_cons (ps_set (i := 1) scHasForm.nd rfl (Or.inl rfl) (pe_ix ix_tup (pv 0) pe_int (fun _ _ => rfl)))
      (pss_cons (ps_if (PW.pt (pw_or (pt_not (pt_val (pe_callB call_isi (by rfl) B.isi (by decide +kernel) (pa_cons (pv 1) (pa_cons (pe_bltn (v := .ty "str") (by rfl) B.str_ (by decide +kernel) rfl) pa_nil))))) (pw_or1 (pt_cmpR (op_notIn_kd KD) (pv 1) (pe_glob (v := .ref dd) rfl gd rfl) (by rfl))))) (pss_one (ps_ret pe_bl)) pss_nil)
      (pss_cons (ps_if (pt_cmpR op_eq (pv 1) pe_str (nomark _)) (pss_one (ps_ret (pe_and (pe_cmpR op_eq (pe_callB call_len_seq (by rfl) B.len PySem.boot_len (pa_cons (pv 0) pa_nil)) pe_int (nomark _)) (pe_one (pe_call GK hr rfl TK_.g TK_.F.kp TK_.b .nil pass0 (pa_cons (pe_ix ix_tup (pv 0) pe_int (fun _ _ => rfl)) pa_nil)))))) pss_nil)
      (pss_cons (ps_if (pt_cmpR op_ne (pe_callB call_len_seq (by rfl) B.len PySem.boot_len (pa_cons (pv 0) pa_nil)) (pe_op op_add (pe_call GB hr1 rfl TB.g TB.F.kp TB.b .nil pass0 (pa_cons (pv 1) pa_nil)) (pe_ix ix_kdict (pe_glob (v := .ref dd) rfl gd rfl) (pv 1) (fun _ _ => rfl))) (nomark _)) (pss_one (ps_ret pe_bl)) pss_nil)
      (pss_one (ps_ret (pe_or (pe_cmpR op_notIn_seq (pv 1) (pe_glob (v := .ref sa) rfl gs rfl) (by rfl)) (pe_one (pe_call GC hr1 rfl TC.g TC.F.kp TC.b .nil pass0 (pa_cons (pe_ix ix_tup (pv 0) pe_int (fun _ _ => rfl)) pa_nil))))))))))), ?_⟩
    refine ⟨_, rfl, _, _, _, _, d.isTup, rfl, .ty "tuple", hd.tyx, d.ktup, _, rfl, ?_⟩
    have k0 := k H (Same.refl H)
    cases hd with
    | s h => exact iteT k0
    | i n => exact iteT k0
    | o => exact iteT k0
    | @t p xs ds e h =>
      refine iteF ⟨_, rfl, _, .inr (.inl ⟨xs, SqT.of e, rfl⟩), ?_⟩
      cases h with
      | nil => exact iteT k0
      | @cons x0 xs a ds h0 h =>
        refine iteF ?_
        refine ⟨_, rfl, p, _, _, _, rfl, rfl, SqT.of e, atI_nat (j := 0) rfl, ?_⟩
        refine ⟨_, rfl, _, _, _, _, a.isStr, rfl, .ty "str", h0.tyx, a.kstr, _, rfl, ?_⟩
        cases ha : a.isStr with
        | false =>
          rw [formed_nstr ha] at k0
          exact iteT k0
        | true =>
          cases h0 with
          | i n => cases ha
          | o => cases ha
          | t _ _ => cases ha
          | @s nm ok =>
            rw [formed_eq] at k k0
            obtain ⟨r, hq1, hq2, hq3⟩ := hM nm
            refine iteF ⟨_, rfl, nm, r, rfl, rfl, hq1, _, rfl, ?_⟩
            have hl := h.length
            cases hm : MANY nm with
            | none =>
              rw [hm] at hq2
              have e1 : formB nm ds = false := by unfold formB; rw [hm]
              rw [e1] at k0
              rw [hq2]
              exact iteT k0
            | some m =>
              rw [hm] at hq2
              obtain ⟨u0, hu⟩ := Option.isSome_iff_exists.mp hq2
              obtain ⟨m', hm', hru⟩ := hq3 u0 hu
              rw [hm] at hm'
              cases hm'
              rw [hq2]
              refine iteF ⟨_, rfl, rfl, _, rfl, ?_⟩
              have eF : formB nm ds = if nm = "is" then decide (ds.length = 1) && (ds.getD 0 .o).isKd else if 1 + ds.length = (if nm ∈ PL then 2 else 1) + m then !decide (nm ∈ PL) || (ds.getD 0 .o).isCnt else false := by unfold formB; rw [hm]
              by_cases c : nm = "is"
              · rw [if_pos c] at eF
                rw [eF] at k k0
                rw [decide_eq_true (show V.str nm = V.str "is" by rw [c])]
                refine iteT ⟨_, rfl, p, _, rfl, .inr (SqT.of e), rfl, _, rfl, ?_⟩
                by_cases c2 : ds.length = 1
                · rw [decide_eq_true (show V.int ((V.str nm :: xs).length : Int) = V.int 2 by rw [List.length_cons, hl, c2]; rfl)]
                  rw [decide_eq_true c2, Bool.true_and] at k
                  cases h with
                  | nil => simp at c2
                  | @cons y xs b ds h1 h =>
                    refine ⟨_, rfl, p, _, _, _, rfl, rfl, SqT.of e, atI_nat (j := 1) rfl, y, b, rfl, h1, ?_, ?_, k⟩
                    · simp only [D.dep, depAll] at hdep
                      omega
                    · simp only [D.size, sizeAll] at hz
                      omega
                · rw [decide_eq_false (show ¬ V.int ((V.str nm :: xs).length : Int) = V.int 2 from fun z => c2 (by injection z with z; simp only [List.length_cons] at z; omega))]
                  rw [decide_eq_false c2, Bool.false_and] at k0
                  exact k0
              · rw [if_neg c] at eF
                rw [eF] at k k0
                rw [decide_eq_false (show ¬ V.str nm = V.str "is" from fun z => c (by injection z))]
                by_cases c2 : 1 + ds.length = (if nm ∈ PL then 2 else 1) + m
                · rw [if_pos c2] at k k0
                  refine iteF ⟨_, rfl, p, _, rfl, .inr (SqT.of e), _, rfl, nm, rfl, _, rfl, dd, nm, .int (m : Nat), rfl, rfl, ⟨es, n, u0, KD.at_, KD.lit, hq1.trans (by rw [hu]), hru⟩, _, _, rfl, rfl, rfl, false, congrArg (fun b => V.bl (!b)) (decide_eq_true (congrArg V.int (by rw [List.length_cons, hl]; omega))), ?_⟩
                  refine iteF ⟨_, rfl, sa, _, rfl, .inr (sqT_any hs), rfl, flat_map PL, _, rfl, ?_⟩
                  rw [if_pos rfl, inV_str]
                  by_cases c3 : nm ∈ PL
                  · rw [decide_eq_true c3] at k k0 ⊢
                    cases h with
                    | nil =>
                      exfalso
                      rw [if_pos c3] at c2
                      simp only [List.length_nil] at c2
                      omega
                    | @cons y xs b ds h1 h =>
                      exact ⟨_, rfl, p, _, _, _, rfl, rfl, SqT.of e, atI_nat (j := 1) rfl, y, b, rfl, h1, k0⟩
                  · rw [decide_eq_false c3] at k k0 ⊢
                    exact k0
                · rw [if_neg c2] at k k0
                  refine iteF ⟨_, rfl, p, _, rfl, .inr (SqT.of e), _, rfl, nm, rfl, _, rfl, dd, nm, .int (m : Nat), rfl, rfl, ⟨es, n, u0, KD.at_, KD.lit, hq1.trans (by rw [hu]), hru⟩, _, _, rfl, rfl, rfl, true, congrArg (fun b => V.bl (!b)) (decide_eq_false fun z => c2 (by injection z with z; simp only [List.length_cons] at z; omega)), ?_⟩
                  exact iteT k0
end
end U6

namespace U6
open PySem PySem.Spec PyProof.Rows L2 KT
open PySem.W (Frag)
theorem allK_eq (u : D) : u.allK = (u.formed && u.parts.all D.allK) := by
  rw [Bool.eq_iff_iff, Bool.and_eq_true, List.all_eq_true]
  constructor
  · intro h
    obtain ⟨f, g⟩ := allK_fm h
    exact ⟨f.formed, g⟩
  · rintro ⟨h, g⟩
    exact fm_allK (fm_of h) g
theorem parts_dep {u : D} (f : Fm u) {n : Nat} (h : u.dep ≤ n) : ∀ p ∈ u.parts, p.dep ≤ n := by
  have e1 : ("over made" : Str) ≠ "is" := by decide
  have e2 : ("under made" : Str) ≠ "is" := by decide
  have e3 : ("then made" : Str) ≠ "then used" := by decide
  cases f <;> simp [D.parts, D.dep, depAll, e1, e2, e3] at h ⊢ <;> omega
theorem all_rev (p : D → Bool) (l : List D) : l.reverse.all p = l.all p := List.all_reverse
section
variable {P : Program} {w : World} {K : Frag} {mg : Str → Option Value} {base : Heap}
def spAllKnots : Sp := fun vs H Q _ => ∃ v d, vs = [v] ∧ DAt H v d ∧ d.dep ≤ 60 ∧ d.size ≤ 1000000 ∧ ∀ H', Same H H' → Q (.bl d.allK) H'
theorem ok_allKnots {f fh fp : Addr} {fd fdh fdp : FuncData} (T : Top K mg "_are_all_knots" sAreAllKnots pAreAllKnots f fd) (TH : Top K mg "_has_form" sHasForm pHasForm fh fdh) (TP : Top K mg "parts_of_knot" sPartsOfKnot pPartsOfKnot fp fdp)
    (GH : FnOk P w K mg base CX0 3 fh fdh pHasForm spHasForm) (GP : FnOk P w K mg base CX0 2 fp fdp pPartsOfKnot spPartsK) : FnOk P w K mg base CX0 4 f fd pAreAllKnots spAllKnots := by
  refine T.F.ok scAreAllKnots (fun vs H Q E h => ?_) (fun cdv A outer s H vs Q E hr h => ?_)
  · obtain ⟨_, _, rfl, _⟩ := h
    rfl
  · obtain ⟨v, d, rfl, hd, hdep, hz, k⟩ := h
    have hr2 : Room 2 _ := hr.mono (by decide)
    refine ⟨_, (pss_cons (ps_set (i := 1) scAreAllKnots.nd rfl (Or.inl rfl) (pe_lst (pa_cons (pv 0) pa_nil)))
      (pss_cons (ps_while PassesOwn.never (pt_truth (pv 1) (by intro _; rfl))
        (pss_cons (ps_set (i := 2) scAreAllKnots.nd rfl (Or.inl rfl) (pe_bm0 PySem.F.plainAttrs_list PySem.F.slot_list_pop PySem.F.type_list_pop mt_pop (pv 1)))
      (pss_cons (ps_if (pt_not (pt_val (pe_call GH hr rfl TH.g TH.F.kp TH.b .nil pass0 (pa_cons (pv 2) pa_nil)))) (pss_one (ps_ret pe_bl)) pss_nil)
      (pss_one (ps_expr (pe_bm PySem.F.plainAttrs_list PySem.F.slot_list_extend PySem.F.type_list_extend KT.mt_extT (pv 1) (pa_cons (pe_call GP hr2 rfl TP.g TP.F.kp TP.b .nil pass0 (pa_cons (pv 2) pa_nil)) pa_nil)))))))
      (pss_one (ps_ret pe_bl)))), ?_⟩
    refine ⟨v, rfl, by show 1 ≤ sizeLine; rw [sizeLine_eq]; omega, fun W hW => ?_⟩
    refine ⟨fun m σ H' => ∃ (vs : List V) (ds : List D) (v2 : Option V), σ = [some v, some (.ref W), v2] ∧ H' W = some (.lst vs.reverse) ∧ DsAt H' vs ds ∧ sizeAll ds = m ∧ m ≤ 1000000 ∧ (∀ u ∈ ds, u.dep ≤ 60) ∧ d.allK = ds.all D.allK ∧ Same H H',
      ⟨d.size, [v], [d], none, rfl, upd_same, .cons (hd.mono (TK.upd_new hW)) .nil, by simp [sizeAll], hz, fun u hu => by rw [List.mem_singleton.mp hu]; exact hdep, by simp, same_upd hW⟩, ?_⟩
    rintro m σ H1 ⟨vs, ds, v2, rfl, hL, hT, rfl, hm, hdp, hall, hs⟩
    refine ⟨_, rfl, _, .inl ⟨_, SqL.of hL, rfl⟩, ?_⟩
    cases hT with
    | nil =>
      have q := k H1 hs
      rw [hall] at q
      exact iteF q
    | @cons y vs u ds h1 h2 =>
      have el : (y :: vs).reverse = vs.reverse ++ [y] := List.reverse_cons
      have c : (!(y :: vs).reverse.isEmpty) = true := by rw [el]; simp
      rw [c]
      have hm' : u.size + sizeAll ds ≤ 1000000 := hm
      have up := u.size_pos
      refine iteT ⟨fun σ' H' => ∃ m' < sizeAll (u :: ds), ∃ (vs : List V) (ds : List D) (v2 : Option V), σ' = [some v, some (.ref W), v2] ∧ H' W = some (.lst vs.reverse) ∧ DsAt H' vs ds ∧ sizeAll ds = m' ∧ m' ≤ 1000000 ∧ (∀ u ∈ ds, u.dep ≤ 60) ∧ d.allK = ds.all D.allK ∧ Same H H', fun σ' H' q => q, ?_⟩
      refine ⟨_, rfl, .inl ⟨rfl, _, SqL.of hL⟩, W, _, y, rfl, rfl, hL, by rw [el]; simp, ?_⟩
      have ed : (y :: vs).reverse.dropLast = vs.reverse := by rw [el]; simp
      rw [ed]
      have tk : TK H1 (upd H1 W (.lst vs.reverse)) := TK.upd_lst hL
      have hs' : Same H (upd H1 W (.lst vs.reverse)) := same_over hs hW
      have h1' := h1.mono tk
      rw [List.all_cons, allK_eq u] at hall
      refine ⟨y, rfl, y, u, rfl, h1', hdp u List.mem_cons_self, by omega, fun H2 s2 => ⟨_, rfl, ?_⟩⟩
      cases fm : u.formed with
      | false =>
        rw [fm, Bool.false_and, Bool.false_and] at hall
        have q := k H2 (hs'.trans s2)
        rw [hall] at q
        exact iteT q
      | true =>
        rw [fm, Bool.true_and] at hall
        have f := fm_of fm
        obtain ⟨ps, pl⟩ := f.psize
        have h1'' := h1'.mono (TK.of_same s2)
        have eW2 := s2 _ _ (upd_same (H := H1) (a := W) (o := .lst vs.reverse))
        refine iteF ⟨_, rfl, .inl ⟨rfl, _, SqL.of eW2⟩, y, rfl, y, u, rfl, h1'', f, fun p us hp hus => ?_⟩
        have np : W ≠ p := ne_of_none eW2 hp
        have lu := hus.length
        have l1 := h2.length
        have l2 := len_size ds
        refine ⟨W, p, _, us, rfl, rfl, by rw [upd_ne np]; exact eW2, SqT.of upd_same, by rw [List.length_reverse, sizeLine_eq]; omega, ?_⟩
        have tz : TK H2 (upd (upd H2 p (.tup us)) W (.lst (vs.reverse ++ us))) := (TK.upd_new hp).trans (TK.upd_lst (by rw [upd_ne np]; exact eW2))
        refine ⟨sizeAll u.parts + sizeAll ds, by show _ < u.size + sizeAll ds; omega, us.reverse ++ vs, u.parts.reverse ++ ds, _, rfl, by rw [upd_same]; simp, ?_, by rw [sizeAll_app, sizeAll_rev], by omega, ?_, ?_, same_over ((hs'.trans s2).trans (same_upd hp)) hW⟩
        · exact ((hus.mono tz).rev).append (h2.mono ((tk.trans (TK.of_same s2)).trans tz))
        · intro z hz
          rcases List.mem_append.mp hz with hz | hz
          · exact parts_dep f (hdp u List.mem_cons_self) z (List.mem_reverse.mp hz)
          · exact hdp z (List.mem_cons_of_mem _ hz)
        · rw [hall, List.all_append, all_rev]
end
end U6

namespace U6
open PySem PySem.Spec PyProof.Rows L2 LamX KT
open PySem.W (Frag)
theorem nodes_len : ∀ (n : Nat) (u : D), u.size ≤ n → u.allK = true → u.nodes.length ≤ u.size ∧ ∀ x ∈ u.nodes, x.allK = true := by
  intro n
  induction n with
  | zero => intro u h; have := u.size_pos; omega
  | succ n ih =>
    intro u h ha
    obtain ⟨f, hp⟩ := allK_fm ha
    obtain ⟨ps, _⟩ := f.psize
    rw [f.nodes]
    have key : ∀ l : List D, sizeAll l ≤ n → (∀ p ∈ l, p.allK = true) → (nodesAll l).length ≤ sizeAll l ∧ ∀ x ∈ nodesAll l, x.allK = true := by
      intro l
      induction l with
      | nil => intro _ _; exact ⟨Nat.le_refl _, fun x hx => by cases hx⟩
      | cons d r ihr =>
        intro hl hk
        simp only [sizeAll] at hl
        obtain ⟨a1, a2⟩ := ih d (by omega) (hk d List.mem_cons_self)
        obtain ⟨b1, b2⟩ := ihr (by omega) fun p hp => hk p (List.mem_cons_of_mem _ hp)
        refine ⟨by simp only [nodesAll, List.length_append, sizeAll]; omega, fun x hx => ?_⟩
        rcases List.mem_append.mp hx with hx | hx
        · exact a2 x hx
        · exact b2 x hx
    obtain ⟨a1, a2⟩ := key u.parts.reverse (by rw [sizeAll_rev]; omega) fun p hp' => hp p (List.mem_reverse.mp hp')
    rw [sizeAll_rev] at a1
    refine ⟨by rw [List.length_cons]; omega, fun x hx => ?_⟩
    rcases List.mem_cons.mp hx with e | hx
    · rw [e]; exact ha
    · exact a2 x hx
section
variable {P : Program} {w : World} {K : Frag} {mg : Str → Option Value} {base : Heap}
def spNodesK (fp : Addr) : Sp := fun vs H Q _ => ∃ v d, vs = [v, .ref fp] ∧ DAt H v d ∧ d.allK = true ∧ d.size ≤ 1000000 ∧
  ∀ (L : Addr) (us : List V) (H' : Hp), Same H H' → H L = none → H' L = some (.lst us) → DsAt H' us d.nodes → Q (.ref L) H'
theorem ok_nodesK {f fp : Addr} {fd fdp : FuncData} (T : Top K mg "nodes_in" sNodesIn pNodesIn f fd) (TP : Top K mg "parts_of_knot" sPartsOfKnot pPartsOfKnot fp fdp) (GP : FnOk P w K mg base CX0 2 fp fdp pPartsOfKnot spPartsK) : FnOk P w K mg base CX0 3 f fd pNodesIn (spNodesK fp) := by
  refine T.F.ok scNodesIn (fun vs H Q E h => ?_) (fun cdv A outer s H vs Q E hr h => ?_)
  · obtain ⟨_, _, rfl, _⟩ := h
    rfl
  · obtain ⟨v, t, rfl, ht, hk, hz, k⟩ := h
    refine ⟨_, (pss_cons (ps_set (i := 2) scNodesIn.nd rfl (Or.inl rfl) (pe_lst (pa_cons (pv 0) pa_nil)))
      (pss_cons (ps_set (i := 3) scNodesIn.nd rfl (Or.inl rfl) (pe_lst pa_nil))
      (pss_cons (ps_while PassesOwn.never (pt_truth (pv 2) (by intro _; rfl))
        (pss_cons (ps_set (i := 4) scNodesIn.nd rfl (Or.inl rfl) (pe_bm0 PySem.F.plainAttrs_list PySem.F.slot_list_pop PySem.F.type_list_pop mt_pop (pv 2)))
      (pss_cons (ps_expr (pe_bm PySem.F.plainAttrs_list PySem.F.slot_list_append PySem.F.type_list_append mt_append (pv 3) (pa_cons (pv 4) pa_nil)))
      (pss_one (ps_expr (pe_bm PySem.F.plainAttrs_list PySem.F.slot_list_extend PySem.F.type_list_extend KT.mt_extT (pv 2) (pa_cons (pe_callL (i := 1) (f := fp) GP hr rfl (.inl rfl) TP.F.kp TP.b .nil pass0 (pa_cons (pv 4) pa_nil)) pa_nil)))))))
      (pss_one (ps_ret (pv 3)))))), ?_⟩
    refine ⟨v, rfl, by show 1 ≤ sizeLine; rw [sizeLine_eq]; omega, fun W hW => ⟨by show 0 ≤ sizeLine; exact Nat.zero_le _, fun L hL => ?_⟩⟩
    have nWL : W ≠ L := ne_of_none upd_same hL
    have nL : H L = none := by
      rw [upd_ne nWL.symm] at hL
      exact hL
    have sh : Same H (upd (upd H W (.lst [v])) L (.lst [])) := same_over (same_over (Same.refl H) hW) nL
    obtain ⟨hnl, _⟩ := nodes_len t.size t (Nat.le_refl _) hk
    refine ⟨fun m σ H' => ∃ (vs : List V) (ts : List D) (us : List V) (rs : List D) (v4 : Option V), σ = [some v, some (.ref fp), some (.ref W), some (.ref L), v4] ∧ H' W = some (.lst vs.reverse) ∧ H' L = some (.lst us) ∧ DsAt H' vs ts ∧ DsAt H' us rs ∧ rs ++ nodesAll ts = t.nodes ∧ sizeAll ts = m ∧ m ≤ 1000000 ∧ (∀ u ∈ ts, u.allK = true) ∧ Same H H',
      ⟨t.size, [v], [t], [], [], none, rfl, by rw [upd_ne nWL, upd_same]; rfl, upd_same, .cons (ht.mono (TK.of_same sh)) .nil, .nil, by simp [nodesAll], by simp [sizeAll], hz, fun u hu => by rw [List.mem_singleton.mp hu]; exact hk, sh⟩, ?_⟩
    rintro m σ H1 ⟨vs, ts, us, rs, v4, rfl, eW, eL, hT, hR, hn, rfl, hm, hks, hs⟩
    have hlen := congrArg List.length hn
    rw [List.length_append] at hlen
    have lr := hR.length
    refine ⟨_, rfl, _, .inl ⟨_, SqL.of eW, rfl⟩, ?_⟩
    cases hT with
    | nil =>
      refine iteF ⟨_, rfl, k L us H1 hs nL eL ?_⟩
      rw [← hn]
      simpa [nodesAll] using hR
    | @cons y vs u ts h1 h2 =>
      have el : (y :: vs).reverse = vs.reverse ++ [y] := List.reverse_cons
      have c : (!(y :: vs).reverse.isEmpty) = true := by rw [el]; simp
      rw [c]
      have hm' : u.size + sizeAll ts ≤ 1000000 := hm
      obtain ⟨fu, hup⟩ := allK_fm (hks u List.mem_cons_self)
      obtain ⟨ps, pl⟩ := fu.psize
      refine iteT ⟨fun σ' H' => ∃ m' < sizeAll (u :: ts), ∃ (vs : List V) (ts : List D) (us : List V) (rs : List D) (v4 : Option V), σ' = [some v, some (.ref fp), some (.ref W), some (.ref L), v4] ∧ H' W = some (.lst vs.reverse) ∧ H' L = some (.lst us) ∧ DsAt H' vs ts ∧ DsAt H' us rs ∧ rs ++ nodesAll ts = t.nodes ∧ sizeAll ts = m' ∧ m' ≤ 1000000 ∧ (∀ u ∈ ts, u.allK = true) ∧ Same H H', fun σ' H' q => q, ?_⟩
      refine ⟨_, rfl, .inl ⟨rfl, _, SqL.of eW⟩, W, _, y, rfl, rfl, eW, by rw [el]; simp, ?_⟩
      have ed : (y :: vs).reverse.dropLast = vs.reverse := by rw [el]; simp
      rw [ed]
      have tk : TK H1 (upd H1 W (.lst vs.reverse)) := TK.upd_lst eW
      have eL2 : upd H1 W (.lst vs.reverse) L = some (.lst us) := by rw [upd_ne nWL.symm]; exact eL
      refine ⟨_, rfl, .inl ⟨rfl, _, SqL.of eL2⟩, y, rfl, L, us, y, rfl, rfl, eL2, by rw [sizeLine_eq]; omega, ?_⟩
      have tk2 : TK H1 (upd (upd H1 W (.lst vs.reverse)) L (.lst (us ++ [y]))) := tk.trans (TK.upd_lst eL2)
      have eW2 : upd (upd H1 W (.lst vs.reverse)) L (.lst (us ++ [y])) W = some (.lst vs.reverse) := by rw [upd_ne nWL, upd_same]
      have hs2 : Same H (upd (upd H1 W (.lst vs.reverse)) L (.lst (us ++ [y]))) := same_over (same_over hs hW) nL
      refine ⟨_, rfl, .inl ⟨rfl, _, SqL.of eW2⟩, rfl, y, rfl, y, u, rfl, h1.mono tk2, fu, fun p zs hp hzs => ?_⟩
      have np : W ≠ p := ne_of_none eW2 hp
      have npL : L ≠ p := ne_of_none upd_same hp
      have lz := hzs.length
      have l2 := h2.length
      have l3 := len_size ts
      have up := u.size_pos
      refine ⟨W, p, _, zs, rfl, rfl, by rw [upd_ne np]; exact eW2, SqT.of upd_same, by rw [List.length_reverse, sizeLine_eq]; omega, ?_⟩
      have tz := (TK.upd_new (o := .tup zs) hp).trans (TK.upd_lst (ys := vs.reverse ++ zs) (by rw [upd_ne np]; exact eW2))
      have tk3 := tk2.trans tz
      have hs3 := same_over (o := .lst (vs.reverse ++ zs)) (hs2.trans (same_upd (o := .tup zs) hp)) hW
      have eL4 : upd (upd (upd (upd H1 W (.lst vs.reverse)) L (.lst (us ++ [y]))) p (.tup zs)) W (.lst (vs.reverse ++ zs)) L = some (.lst (us ++ [y])) := by rw [upd_ne nWL.symm, upd_ne npL, upd_same]
      refine ⟨sizeAll u.parts + sizeAll ts, by show _ < u.size + sizeAll ts; omega, zs.reverse ++ vs, u.parts.reverse ++ ts, us ++ [y], rs ++ [u], _, rfl, by rw [upd_same]; simp, eL4, ((hzs.mono tz).rev).append (h2.mono tk3), (hR.mono tk3).append (.cons (h1.mono tk3) .nil), ?_, by rw [sizeAll_app, sizeAll_rev], by omega, ?_, hs3⟩
      · rw [← hn, nodesAll_app]
        show _ = rs ++ (u.nodes ++ nodesAll ts)
        rw [fu.nodes]
        simp
      · intro z hz'
        rcases List.mem_append.mp hz' with hz' | hz'
        · exact hup z (List.mem_reverse.mp hz')
        · exact hks z (List.mem_cons_of_mem _ hz')
end
end U6

namespace U6
open PySem PySem.Spec PyProof.Rows L2 LamX KT
open PySem.W (Frag)
inductive TlOf : D → Told → Prop
  | is {x : D} {k : Ty} : x.ty = some k → TlOf (.t [.s "is", x]) ([k], k)
  | om {x : D} {rx r : Told} : x.tl = some rx → madeO rx = some r → TlOf (.t [.s "over made", x]) r
  | um {x : D} {rx r : Told} : x.tl = some rx → madeU rx = some r → TlOf (.t [.s "under made", x]) r
  | tm {x y : D} {rx ry : Told} : x.tl = some rx → y.tl = some ry → TlOf (.t [.s "then made", x, y]) (thenM rx ry)
  | tu {p : Int} {y : D} {ry r : Told} : y.tl = some ry → thenU p ry = some r → TlOf (.t [.s "then used", .i p, y]) r
  | us {nm : Str} {p : Int} {x y : D} {rx ry r : Told} : placed nm = true → x.tl = some rx → y.tl = some ry → usedAt nm p rx ry = some r → TlOf (.t [.s nm, .i p, x, y]) r
theorem both_inv {f : Told → Told → Option Told} {a b : Option Told} {r : Told} (h : both f a b = some r) : ∃ x y, a = some x ∧ b = some y ∧ f x y = some r := by
  cases a with
  | none => cases h
  | some x => cases b with
    | none => cases h
    | some y => exact ⟨x, y, rfl, rfl, h⟩
theorem tl_inv {u : D} {r : Told} (h : u.tl = some r) : TlOf u r := by
  cases u with
  | s z => simp only [D.tl] at h; cases h
  | i n => simp only [D.tl] at h; cases h
  | o => simp only [D.tl] at h; cases h
  | t l =>
    simp only [D.tl] at h
    unfold tellOf at h
    split at h
    · rename_i nm x e0 rx e
      simp only [tlAll] at e
      injection e with _ e
      injection e with e1 _
      subst e1
      split at h
      · rename_i c
        subst c
        obtain ⟨k, h1, h2⟩ := Option.map_eq_some_iff.mp h
        rw [← h2]
        exact .is h1
      · split at h
        · rename_i c
          subst c
          obtain ⟨rx, h1, h2⟩ := Option.bind_eq_some_iff.mp h
          exact .om h1 h2
        · split at h
          · rename_i c
            subst c
            obtain ⟨rx, h1, h2⟩ := Option.bind_eq_some_iff.mp h
            exact .um h1 h2
          · cases h
    · rename_i nm x y e0 rx ry e
      simp only [tlAll] at e
      injection e with _ e
      injection e with e1 e
      injection e with e2 _
      subst e1
      subst e2
      split at h
      · rename_i c
        subst c
        obtain ⟨a, b, h1, h2, h3⟩ := both_inv h
        cases h3
        exact .tm h1 h2
      · split at h
        · rename_i c
          subst c
          split at h
          · obtain ⟨ry, h1, h2⟩ := Option.bind_eq_some_iff.mp h
            exact .tu h1 h2
          · cases h
        · cases h
    · rename_i nm p x y e0 e9 rx ry e
      simp only [tlAll] at e
      injection e with _ e
      injection e with _ e
      injection e with e1 e
      injection e with e2 _
      subst e1
      subst e2
      split at h
      · rename_i c
        obtain ⟨a, b, h1, h2, h3⟩ := both_inv h
        exact .us c h1 h2 h3
      · cases h
    · cases h
theorem tl_of {u : D} {r : Told} (h : TlOf u r) : u.tl = some r := by
  cases h with
  | is h => simp [D.tl, tellOf, tlAll, h]
  | om h1 h2 => simp [D.tl, tellOf, tlAll, h1, h2]
  | um h1 h2 => simp [D.tl, tellOf, tlAll, h1, h2]
  | tm h1 h2 => simp [D.tl, tellOf, tlAll, h1, h2, both]
  | tu h1 h2 => simp [D.tl, tellOf, tlAll, h1, h2]
  | us c h1 h2 h3 => simp [D.tl, tellOf, tlAll, h1, h2, both, c, h3]
theorem usedAt_p {nm : Str} {p : Int} {x y r : Told} (h : usedAt nm p x y = some r) : 0 ≤ p ∧ ∃ k, y.1[p.toNat]? = some k := by
  unfold usedAt at h
  split at h
  · rename_i c
    split at h
    · cases h
    · rename_i k e
      exact ⟨c, k, e⟩
  · cases h
theorem thenU_p {p : Int} {y r : Told} (h : thenU p y = some r) : 0 ≤ p := by
  unfold thenU at h
  split at h
  · assumption
  · cases h
/-- what tells something has a knot's form all through -/
theorem tl_allK : ∀ (n : Nat) (u : D) (r : Told), u.size ≤ n → u.tl = some r → u.allK = true := by
  intro n
  induction n with
  | zero => intro u r h; have := u.size_pos; omega
  | succ n ih =>
    intro u r hz h
    cases tl_inv h with
    | is hk => exact fm_allK (.is (by unfold D.isKd; rw [hk]; rfl)) fun p hp => by cases hp
    | om h1 h2 =>
      simp only [D.size, sizeAll] at hz
      exact fm_allK .om fun p hp => by rw [List.mem_singleton.mp hp]; exact ih _ _ (by omega) h1
    | um h1 h2 =>
      simp only [D.size, sizeAll] at hz
      exact fm_allK .um fun p hp => by rw [List.mem_singleton.mp hp]; exact ih _ _ (by omega) h1
    | tm h1 h2 =>
      simp only [D.size, sizeAll] at hz
      refine fm_allK .tm fun p hp => ?_
      rcases List.mem_cons.mp hp with rfl | hp
      · exact ih _ _ (by omega) h1
      · rw [List.mem_singleton.mp hp]; exact ih _ _ (by omega) h2
    | tu h1 h2 =>
      simp only [D.size, sizeAll] at hz
      exact fm_allK (.tu (thenU_p h2)) fun p hp => by rw [List.mem_singleton.mp hp]; exact ih _ _ (by omega) h1
    | @us nm p x y rx ry r c h1 h2 h3 =>
      simp only [D.size, sizeAll] at hz
      have hp := (usedAt_p h3).1
      have f : Fm (.t [.s nm, .i p, x, y]) := by
        unfold placed at c
        rw [Bool.or_eq_true, Bool.or_eq_true, decide_eq_true_eq, decide_eq_true_eq, decide_eq_true_eq] at c
        rcases c with (e | e) | e
        · subst e; exact .ou hp
        · subst e; exact .uu hp
        · subst e; exact .ct hp
      refine fm_allK f fun q hq => ?_
      rcases List.mem_cons.mp hq with rfl | hq
      · exact ih _ _ (by omega) h1
      · rw [List.mem_singleton.mp hq]; exact ih _ _ (by omega) h2
/-- what can be handled at once -/
def Small (r : Told) : Prop := r.1.length ≤ 40000 ∧ (∀ t ∈ r.1, t.d.dep ≤ 60) ∧ r.2.d.dep ≤ 60
theorem dep_n (g : Sg) (a b : Ty) : (Ty.n g a b).d.dep = max a.d.dep b.d.dep + 1 := by
  simp only [Ty.d, D.dep, depAll]
  omega
/-- bounds of what is told -/
def Bd (n m : Nat) (r : Told) : Prop := r.1.length ≤ n ∧ (∀ t ∈ r.1, t.d.dep ≤ m) ∧ r.2.d.dep ≤ m
theorem Bd.madeO {n m : Nat} {x r : Told} (h : Bd n m x) (e : madeO x = some r) : Bd n (m + 1) r := by
  obtain ⟨row, goal⟩ := x
  obtain ⟨h1, h2, h3⟩ := h
  simp only [U6.madeO] at e
  split at e
  · cases e
  · rename_i c
    cases e
    refine ⟨?_, fun t ht => ?_, ?_⟩
    · show row.dropLast.length ≤ n
      rw [List.length_dropLast]
      have : row.length ≤ n := h1
      omega
    · have := h2 t ((List.dropLast_sublist row).mem ht)
      omega
    · show (Ty.n .ov goal _).d.dep ≤ _
      rw [dep_n]
      have hm : row.getLastD (.w "") ∈ row := by
        cases row with
        | nil => simp at c
        | cons a r => rw [List.getLastD_cons]; exact List.getLastD_mem_cons
      have q1 := h2 _ hm
      have q2 : goal.d.dep ≤ m := h3
      omega
theorem Bd.madeU {n m : Nat} {x r : Told} (h : Bd n m x) (e : madeU x = some r) : Bd n (m + 1) r := by
  obtain ⟨row, goal⟩ := x
  obtain ⟨h1, h2, h3⟩ := h
  unfold U6.madeU at e
  split at e
  · rename_i a b r' g' he
    cases he
    cases e
    refine ⟨?_, fun t ht => ?_, ?_⟩
    · show (b :: r').length ≤ n
      have : (a :: b :: r').length ≤ n := h1
      simp only [List.length_cons] at this ⊢
      omega
    · have := h2 t (List.mem_cons_of_mem _ ht)
      omega
    · show (Ty.n .un a goal).d.dep ≤ _
      rw [dep_n]
      have q1 := h2 a List.mem_cons_self
      have q2 : goal.d.dep ≤ m := h3
      omega
  · cases e
theorem Bd.thenM {n n' m : Nat} {x y : Told} (h : Bd n m x) (h' : Bd n' m y) : Bd (n + n') (m + 1) (thenM x y) := by
  refine ⟨?_, fun t ht => ?_, ?_⟩
  · show (x.1 ++ y.1).length ≤ _
    rw [List.length_append]
    have := h.1
    have := h'.1
    omega
  · rcases List.mem_append.mp ht with q | q
    · have := h.2.1 t q; omega
    · have := h'.2.1 t q; omega
  · show (Ty.n .th x.2 y.2).d.dep ≤ _
    rw [dep_n]
    have := h.2.2
    have := h'.2.2
    omega
theorem Bd.thenU {n m : Nat} {p : Int} {y r : Told} (h : Bd n m y) (e : thenU p y = some r) : Bd n (m + 1) r := by
  unfold U6.thenU at e
  split at e
  · split at e
    · rename_i a b ha hb
      cases e
      obtain ⟨la, _⟩ := List.getElem?_eq_some_iff.mp hb
      refine ⟨?_, fun t ht => ?_, by have := h.2.2; show y.2.d.dep ≤ _; omega⟩
      · show (y.1.take p.toNat ++ [Ty.n .th a b] ++ y.1.drop (p.toNat + 2)).length ≤ n
        rw [List.length_append, List.length_append, List.length_take, List.length_drop, List.length_singleton]
        have := h.1
        omega
      · have ht : t ∈ y.1.take p.toNat ++ [Ty.n .th a b] ++ y.1.drop (p.toNat + 2) := ht
        rcases List.mem_append.mp ht with q | q
        · rcases List.mem_append.mp q with q | q
          · have := h.2.1 t (List.mem_of_mem_take q); omega
          · rw [List.mem_singleton.mp q, dep_n]
            have q1 := h.2.1 a (List.mem_of_getElem? ha)
            have q2 := h.2.1 b (List.mem_of_getElem? hb)
            omega
        · have := h.2.1 t (List.mem_of_mem_drop q); omega
    · cases e
  · cases e
theorem Bd.usedAt {n n' m : Nat} {nm : Str} {p : Int} {x y r : Told} (h : Bd n m x) (h' : Bd n' m y) (e : usedAt nm p x y = some r) : Bd (n + n') (m + 1) r := by
  unfold U6.usedAt at e
  split at e
  · split at e
    · cases e
    · rename_i k hk
      obtain ⟨lk, _⟩ := List.getElem?_eq_some_iff.mp hk
      have dk := h'.2.1 k (List.mem_of_getElem? hk)
      have l1 := h.1
      have l2 := h'.1
      have g2 := h'.2.2
      have gx := h.2.2
      have tk : ∀ t ∈ y.1.take p.toNat, t.d.dep ≤ m := fun t q => h'.2.1 t (List.mem_of_mem_take q)
      have dr : ∀ t ∈ y.1.drop (p.toNat + 1), t.d.dep ≤ m := fun t q => h'.2.1 t (List.mem_of_mem_drop q)
      split at e
      · cases e
        refine ⟨?_, fun t ht => ?_, by show y.2.d.dep ≤ _; omega⟩
        · show (y.1.take p.toNat ++ [Ty.n .ov k x.2] ++ x.1 ++ y.1.drop (p.toNat + 1)).length ≤ _
          simp only [List.length_append, List.length_take, List.length_drop, List.length_singleton]
          omega
        · have ht : t ∈ y.1.take p.toNat ++ [Ty.n .ov k x.2] ++ x.1 ++ y.1.drop (p.toNat + 1) := ht
          simp only [List.mem_append, List.mem_singleton] at ht
          rcases ht with ((q | q) | q) | q
          · have := tk t q; omega
          · rw [q, dep_n]; omega
          · have := h.2.1 t q; omega
          · have := dr t q; omega
      · split at e
        · cases e
          refine ⟨?_, fun t ht => ?_, by show y.2.d.dep ≤ _; omega⟩
          · show (y.1.take p.toNat ++ x.1 ++ [Ty.n .un x.2 k] ++ y.1.drop (p.toNat + 1)).length ≤ _
            simp only [List.length_append, List.length_take, List.length_drop, List.length_singleton]
            omega
          · have ht : t ∈ y.1.take p.toNat ++ x.1 ++ [Ty.n .un x.2 k] ++ y.1.drop (p.toNat + 1) := ht
            simp only [List.mem_append, List.mem_singleton] at ht
            rcases ht with ((q | q) | q) | q
            · have := tk t q; omega
            · have := h.2.1 t q; omega
            · rw [q, dep_n]; omega
            · have := dr t q; omega
        · split at e
          · cases e
            refine ⟨?_, fun t ht => ?_, by show y.2.d.dep ≤ _; omega⟩
            · show (y.1.take p.toNat ++ x.1 ++ y.1.drop (p.toNat + 1)).length ≤ _
              simp only [List.length_append, List.length_take, List.length_drop]
              omega
            · have ht : t ∈ y.1.take p.toNat ++ x.1 ++ y.1.drop (p.toNat + 1) := ht
              simp only [List.mem_append] at ht
              rcases ht with (q | q) | q
              · have := tk t q; omega
              · have := h.2.1 t q; omega
              · have := dr t q; omega
          · cases e
  · cases e
mutual
/-- a datum that is a type is that type's -/
theorem D.ty_d : ∀ {d : D} {t : Ty}, d.ty = some t → t.d = d
  | .s z, t, h => by
    simp only [D.ty] at h
    split at h
    · cases h; rfl
    · cases h
  | .i _, t, h => by simp only [D.ty] at h; cases h
  | .o, t, h => by simp only [D.ty] at h; cases h
  | .t l, t, h => by
    simp only [D.ty] at h
    obtain ⟨g, x, y, a, b, rfl, ⟨o, hr⟩, rfl⟩ := mkTy_inv h
    simp only [tyAll] at hr
    injection hr with _ hr
    injection hr with e1 hr
    injection hr with e2 _
    have q := tyAll_d [D.s g.str, x, y]
    have q1 := q 1 x a rfl e1
    have q2 := q 2 y b rfl e2
    simp only [Ty.d, q1, q2]
theorem tyAll_d : ∀ (ds : List D) (j : Nat) (d : D) (t : Ty), ds[j]? = some d → d.ty = some t → t.d = d
  | [], j, d, t, e, _ => by simp at e
  | a :: r, 0, d, t, e1, e2 => by
    obtain rfl := Option.some.inj (show some a = some d from e1)
    exact D.ty_d e2
  | a :: r, j + 1, d, t, e1, e2 => tyAll_d r j d t (by simpa using e1) e2
end
theorem Bd.le {n n' m m' : Nat} {r : Told} (h : Bd n m r) (a : n ≤ n') (b : m ≤ m') : Bd n' m' r := ⟨by have := h.1; omega, fun t ht => by have := h.2.1 t ht; omega, by have := h.2.2; omega⟩
theorem tl_bd : ∀ (n : Nat) (u : D) (r : Told), u.size ≤ n → u.tl = some r → Bd u.size u.dep r := by
  intro n
  induction n with
  | zero => intro u r h; have := u.size_pos; omega
  | succ n ih =>
    intro u r hz h
    cases tl_inv h with
    | @is x k hk =>
      have e := D.ty_d hk
      have l : k.d.dep ≤ (D.t [.s "is", x]).dep := by
        rw [e]
        simp only [D.dep, depAll]
        omega
      refine ⟨by show 1 ≤ _; exact D.size_pos _, fun t ht => ?_, l⟩
      rw [List.mem_singleton.mp (show t ∈ [k] from ht)]
      exact l
    | om h1 h2 =>
      simp only [D.size, sizeAll] at hz
      exact ((ih _ _ (by omega) h1).madeO h2).le (by simp only [D.size, sizeAll]; omega) (by simp only [D.dep, depAll]; omega)
    | um h1 h2 =>
      simp only [D.size, sizeAll] at hz
      exact ((ih _ _ (by omega) h1).madeU h2).le (by simp only [D.size, sizeAll]; omega) (by simp only [D.dep, depAll]; omega)
    | @tm x y _ _ h1 h2 =>
      simp only [D.size, sizeAll] at hz
      exact (((ih _ _ (by omega) h1).le (Nat.le_refl _) (Nat.le_max_left x.dep y.dep)).thenM ((ih _ _ (by omega) h2).le (Nat.le_refl _) (Nat.le_max_right x.dep y.dep))).le (by simp only [D.size, sizeAll]; omega) (by simp only [D.dep, depAll]; omega)
    | tu h1 h2 =>
      simp only [D.size, sizeAll] at hz
      exact ((ih _ _ (by omega) h1).thenU h2).le (by simp only [D.size, sizeAll]; omega) (by simp only [D.dep, depAll]; omega)
    | @us nm p x y _ _ _ c h1 h2 h3 =>
      simp only [D.size, sizeAll] at hz
      exact (((ih _ _ (by omega) h1).le (Nat.le_refl _) (Nat.le_max_left x.dep y.dep)).usedAt ((ih _ _ (by omega) h2).le (Nat.le_refl _) (Nat.le_max_right x.dep y.dep)) h3).le (by simp only [D.size, sizeAll]; omega) (by simp only [D.dep, depAll]; omega)
theorem Bd.small {n m : Nat} {r : Told} (h : Bd n m r) (a : n ≤ 40000) (b : m ≤ 60) : Small r := ⟨by have := h.1; omega, fun t ht => by have := h.2.1 t ht; omega, by have := h.2.2; omega⟩
theorem size_mem {p : D} : ∀ {l : List D}, p ∈ l → p.size ≤ sizeAll l
  | [], h => by cases h
  | d :: r, h => by
    simp only [sizeAll]
    rcases List.mem_cons.mp h with e | q
    · rw [e]; omega
    · have := size_mem q; omega
/-- the nodes are no greater and no deeper -/
theorem nodes_bd : ∀ (n : Nat) (u : D), u.size ≤ n → u.allK = true → ∀ x ∈ u.nodes, x.size ≤ u.size ∧ x.dep ≤ u.dep := by
  intro n
  induction n with
  | zero => intro u h; have := u.size_pos; omega
  | succ n ih =>
    intro u h ha x hx
    obtain ⟨f, hp⟩ := allK_fm ha
    obtain ⟨ps, _⟩ := f.psize
    rw [f.nodes] at hx
    rcases List.mem_cons.mp hx with e | hx
    · rw [e]; exact ⟨Nat.le_refl _, Nat.le_refl _⟩
    · have key : ∀ l : List D, sizeAll l ≤ n → (∀ p ∈ l, p.allK = true) → x ∈ nodesAll l → ∃ p ∈ l, x.size ≤ p.size ∧ x.dep ≤ p.dep := by
        intro l
        induction l with
        | nil => intro _ _ z; cases z
        | cons d r ihr =>
          intro hl hk z
          simp only [sizeAll] at hl
          rcases List.mem_append.mp z with z | z
          · exact ⟨d, List.mem_cons_self, ih d (by omega) (hk d List.mem_cons_self) x z⟩
          · obtain ⟨p, h1, h2⟩ := ihr (by omega) (fun p hp => hk p (List.mem_cons_of_mem _ hp)) z
            exact ⟨p, List.mem_cons_of_mem _ h1, h2⟩
      obtain ⟨p, h1, h2, h3⟩ := key u.parts.reverse (by rw [sizeAll_rev]; omega) (fun p hp' => hp p (List.mem_reverse.mp hp')) hx
      have hp1 := List.mem_reverse.mp h1
      have hd := parts_dep f (Nat.le_refl _) p hp1
      have hs : p.size ≤ sizeAll u.parts := size_mem hp1
      exact ⟨by omega, by omega⟩
end U6

namespace U6
open PySem PySem.Spec PyProof.Rows L2 LamX KT
open PySem.W (Frag)
inductive Run : List D → List D → List D → Prop
  | nil {S : List D} : Run S [] S
  | cons {S R S' : List D} {u : D} : Run (S ++ [u]) R S' → Run (S ++ u.parts) (u :: R) S'
theorem run_nodes : ∀ (n : Nat) (u : D), u.size ≤ n → u.allK = true → ∀ (S R S' : List D), Run (S ++ [u]) R S' → Run S (u.nodes.reverse ++ R) S' := by
  intro n
  induction n with
  | zero => intro u h; have := u.size_pos; omega
  | succ n ih =>
    intro u h ha S R S' hr
    obtain ⟨f, hp⟩ := allK_fm ha
    obtain ⟨ps, _⟩ := f.psize
    have key : ∀ (l : List D), sizeAll l ≤ n → (∀ p ∈ l, p.allK = true) → ∀ (S R S' : List D), Run (S ++ l) R S' → Run S ((nodesAll l.reverse).reverse ++ R) S' := by
      intro l
      induction l with
      | nil => intro _ _ S R S' q; simpa [nodesAll] using q
      | cons d r ihr =>
        intro hl hk S R S' q
        simp only [sizeAll] at hl
        have e : (nodesAll (d :: r).reverse).reverse ++ R = d.nodes.reverse ++ ((nodesAll r.reverse).reverse ++ R) := by
          rw [List.reverse_cons, nodesAll_app]
          simp [nodesAll]
        rw [e]
        refine ih d (by omega) (hk d List.mem_cons_self) _ _ _ (ihr (by omega) (fun p hp => hk p (List.mem_cons_of_mem _ hp)) _ _ _ ?_)
        rw [List.append_assoc]
        exact q
    have e : u.nodes.reverse ++ R = (nodesAll u.parts.reverse).reverse ++ (u :: R) := by rw [f.nodes]; simp
    rw [e]
    exact key u.parts (by omega) hp _ _ _ (.cons hr)
theorem Run.inv {S R S' : List D} {u : D} (h : Run S (u :: R) S') : ∃ S0, S = S0 ++ u.parts ∧ Run (S0 ++ [u]) R S' := by
  cases h with
  | cons h => exact ⟨_, rfl, h⟩
theorem Run.end_ {S S' : List D} (h : Run S [] S') : S = S' := by
  cases h
  rfl
/-- what a telling is told as -/
def Res (ok : Addr → Prop) (H : Hp) (v : V) : Option Told → Prop
  | none => v = .non
  | some r => ∃ p L us g, v = .ref p ∧ ok L ∧ H p = some (.tup [.ref L, g]) ∧ H L = some (.lst us) ∧ Tys H us r.1 ∧ TyAt H g r.2
theorem Res.mono {ok ok' : Addr → Prop} {H H' : Hp} {v : V} {o : Option Told} (h : Res ok H v o) (hk : ∀ L, ok L → ok' L) (hl : ∀ L us, ok L → H L = some (.lst us) → H' L = some (.lst us)) (tk : TK H H') : Res ok' H' v o := by
  cases o with
  | none => exact h
  | some r =>
    obtain ⟨p, L, us, g, e, h0, h1, h2, h3, h4⟩ := h
    exact ⟨p, L, us, g, e, hk L h0, tk _ _ h1, hl L us h0 h2, h3.mono tk, h4.mono tk⟩
theorem Res.same {ok ok' : Addr → Prop} {H H' : Hp} {v : V} {o : Option Told} (h : Res ok H v o) (hk : ∀ L, ok L → ok' L) (s : Same H H') : Res ok' H' v o := h.mono hk (fun L us _ e => s _ _ e) (TK.of_same s)
theorem paired_split {α β : Type} {F : α → β → Prop} {ts rs : List β} : ∀ {us : List α}, Paired F us (ts ++ rs) → Paired F (us.take ts.length) ts ∧ Paired F (us.drop ts.length) rs := by
  induction ts with
  | nil => intro us h; exact ⟨.nil, h⟩
  | cons t ts ih =>
    intro us h
    cases h with
    | cons h1 h2 =>
      obtain ⟨a, b⟩ := ih h2
      exact ⟨.cons h1 a, b⟩
section
variable {P : Program} {w : World} {K : Frag} {mg : Str → Option Value} {base : Heap}
def spNodeK : Sp := fun vs H Q _ => ∃ x u L us, vs = [x, .ref L] ∧ DAt H x u ∧ u.dep ≤ 60 ∧ Fm u ∧ H L = some (.lst us) ∧ Paired (Res (fun _ => True) H) us (u.parts.map D.tl) ∧ (∀ o ∈ u.parts.map D.tl, ∀ r, o = some r → Small r) ∧
  ∀ v' H', Same H H' → Res (fun L => H L = none) H' v' u.tl → Q v' H'
def spFIK (fp ft : Addr) : Sp := fun vs H Q _ => ∃ v d, vs = [v, .ref fp, .ref ft] ∧ DAt H v d ∧ d.allK = true ∧ d.size ≤ 40000 ∧ d.dep ≤ 60 ∧ (∀ u ∈ d.nodes, u.dep ≤ 60 ∧ ∀ r, u.tl = some r → Small r) ∧ ∀ v' H', Same H H' → Res (fun L => H L = none) H' v' d.tl → Q v' H'
theorem ok_fromInsideK {f fn fp ft : Addr} {fd fdn fdp fdt : FuncData} (T : Top K mg "from_inside" sFromInside pFromInside f fd) (TN : Top K mg "nodes_in" sNodesIn pNodesIn fn fdn) (TP : Top K mg "parts_of_knot" sPartsOfKnot pPartsOfKnot fp fdp) (TT : Top K mg "_tell" sTell pTell ft fdt)
    (GN : FnOk P w K mg base CX0 3 fn fdn pNodesIn (spNodesK fp)) (GP : FnOk P w K mg base CX0 2 fp fdp pPartsOfKnot spPartsK) (GT : FnOk P w K mg base CX0 2 ft fdt pTell spNodeK) (B : Blt mg) : FnOk P w K mg base CX0 4 f fd pFromInside (spFIK fp ft) := by
  refine T.F.ok scFromInside (fun vs H Q E h => ?_) (fun cdv A outer s H vs Q E hr h => ?_)
  · obtain ⟨_, _, rfl, _⟩ := h
    rfl
  · obtain ⟨v, t, rfl, ht, hk, hz, hdp, hb, k⟩ := h
    have hr2 : Room 2 _ := hr.mono (by decide)
    refine ⟨_, (pss_cons (ps_set (i := 3) scFromInside.nd rfl (Or.inl rfl) (pe_lst pa_nil))
      (pss_cons (ps_for PassesOwn.never rfl (pi_reversed (by rfl) B.reversed (pa_cons (pe_call GN hr rfl TN.g TN.F.kp TN.b .nil pass0 (pa_cons (pv 0) (pa_cons (pv 1) pa_nil))) pa_nil)) (pg_name (i := 4) scFromInside.nd rfl (Or.inl rfl))
        (pss_cons (ps_set (i := 5) scFromInside.nd rfl (Or.inl rfl) (pe_op op_sub (pe_callB call_len_seq (by rfl) B.len PySem.boot_len (pa_cons (pv 3) pa_nil)) (pe_callB call_len_seq (by rfl) B.len PySem.boot_len (pa_cons (pe_callL (i := 1) (f := fp) GP hr2 rfl (.inl rfl) TP.F.kp TP.b .nil pass0 (pa_cons (pv 4) pa_nil)) pa_nil))))
      (pss_cons (ps_set (i := 6) scFromInside.nd rfl (Or.inl rfl) (pe_slice sl_list (pv 3) (po_some (pv 5)) po_none))
      (pss_cons (KT.ps_delTail (pv 3) (po_some (pv 5)))
      (pss_one (ps_expr (pe_bm PySem.F.plainAttrs_list PySem.F.slot_list_append PySem.F.type_list_append mt_append (pv 3) (pa_cons (pe_callL (i := 2) (f := ft) GT hr2 rfl (.inl rfl) TT.F.kp TT.b .nil pass0 (pa_cons (pv 4) (pa_cons (pv 6) pa_nil))) pa_nil))))))))
      (pss_one (ps_ret (pe_ix ix_list (pv 3) pe_int (fun _ _ => rfl)))))), ?_⟩
    refine ⟨by show 0 ≤ sizeLine; exact Nat.zero_le _, fun W hW => ?_⟩
    have sW : Same H (upd H W (.lst [])) := same_upd hW
    refine ⟨v, rfl, .ref fp, rfl, v, t, rfl, ht.mono (TK.of_same sW), hk, by omega, fun L ns H1 s1 nL eL hT => ?_⟩
    have nWL : W ≠ L := ne_of_none upd_same nL
    have nHL : H L = none := by
      rw [upd_ne nWL.symm] at nL
      exact nL
    have ln := hT.length
    obtain ⟨hnl, hna⟩ := nodes_len t.size t (Nat.le_refl _) hk
    refine ⟨L, ns, rfl, SqL.of eL, ?_⟩
    refine for_it walk_rev (fun i σ H' => ∃ (v4 v5 v6 : Option V) (us : List V) (S : List D), σ = [some v, some (.ref fp), some (.ref ft), some (.ref W), v4, v5, v6] ∧ H' W = some (.lst us) ∧ Same H H' ∧ H' L = some (.lst ns) ∧ DsAt H' ns t.nodes ∧ Paired (Res (fun M => M ≠ W ∧ H M = none) H') us (S.map D.tl) ∧ S.length ≤ i ∧ Run S (t.nodes.reverse.drop i) [t] ∧ ∀ x ∈ S, x ∈ t.nodes)
      ⟨none, none, none, [], [], rfl, s1 _ _ upd_same, sW.trans s1, eL, hT, .nil, Nat.le_refl _, by have q := run_nodes t.size t (Nat.le_refl _) hk [] [] [t] .nil; simpa using q, fun x hx => by cases hx⟩ ?_ ?_ ?_
    · rintro i σ H' hi ⟨_, _, _, _, _, _, _, _, e, _⟩
      exact SqL.of e
    · rintro i x σ H' H2 hi ⟨v4, v5, v6, us, S, rfl, eW, hs, eL', hN, hU, hSi, hR, hSn⟩ ⟨rfl, hx'⟩
      obtain ⟨u, hu, hxu⟩ := hN.at_ hx'
      have mu := List.mem_of_getElem? hu
      obtain ⟨fu, _⟩ := allK_fm (hna u mu)
      obtain ⟨dpu, _⟩ := hb u mu
      have lN := hN.length
      have hd : t.nodes.reverse.drop i = u :: t.nodes.reverse.drop (i + 1) := by
        have q : t.nodes.reverse[i]? = some u := by
          rw [List.getElem?_reverse (by omega), ← lN]
          exact hu
        obtain ⟨h1, h2⟩ := List.getElem?_eq_some_iff.mp q
        rw [List.drop_eq_getElem_cons h1, h2]
      rw [hd] at hR
      obtain ⟨S0, rfl, hR'⟩ := hR.inv
      have lU := hU.length
      rw [List.map_append] at hU
      obtain ⟨hU1, hU2⟩ := paired_split hU
      rw [List.length_map] at hU1 hU2
      rw [List.length_map, List.length_append] at lU
      rw [List.length_append] at hSi
      refine ⟨_, rfl, W, us, rfl, .inl (SqL.of eW), rfl, x, rfl, x, u, rfl, hxu, fu, fun p zs hp hzs => ⟨p, zs, rfl, .inr (SqT.of upd_same), _, _, rfl, rfl, ?_⟩⟩
      have lz := hzs.length
      have e5 : (us.length : Int) - (zs.length : Int) = (S0.length : Int) := by omega
      dsimp only
      rw [e5]
      have np : W ≠ p := ne_of_none eW hp
      have npL : L ≠ p := ne_of_none eL' hp
      have eW1 : upd H2 p (.tup zs) W = some (.lst us) := by rw [upd_ne np]; exact eW
      refine ⟨_, rfl, _, rfl, _, rfl, W, us, rfl, SqL.of eW1, fun q hq => ?_⟩
      rw [cutV_from]
      have nq : W ≠ q := ne_of_none eW1 hq
      have npq : L ≠ q := ne_of_none (show upd H2 p (.tup zs) L = some (.lst ns) by rw [upd_ne npL]; exact eL') hq
      have eW2 : upd (upd H2 p (.tup zs)) q (.lst (us.drop S0.length)) W = some (.lst us) := by rw [upd_ne nq]; exact eW1
      refine ⟨_, rfl, _, rfl, _, rfl, W, us, S0.length, rfl, rfl, eW2, by omega, ?_⟩
      have tk : TK H2 (upd (upd (upd H2 p (.tup zs)) q (.lst (us.drop S0.length))) W (.lst (us.take S0.length))) := ((TK.upd_new hp).trans (TK.upd_new hq)).trans (TK.upd_lst eW2)
      have s2 : Same H (upd (upd (upd H2 p (.tup zs)) q (.lst (us.drop S0.length))) W (.lst (us.take S0.length))) := same_over ((hs.trans (same_upd hp)).trans (same_upd hq)) hW
      have nqW : q ≠ W := nq.symm
      have lsK : ∀ M zs', M ≠ W → H2 M = some (.lst zs') → upd (upd (upd H2 p (.tup zs)) q (.lst (us.drop S0.length))) W (.lst (us.take S0.length)) M = some (.lst zs') := fun M zs' nM e => by
        rw [upd_ne nM]
        exact ((same_upd hp).trans (same_upd hq)) _ _ e
      refine ⟨_, rfl, .inl ⟨rfl, _, SqL.of upd_same⟩, rfl, x, rfl, _, rfl, x, u, q, us.drop S0.length, rfl, hxu.mono tk, dpu, fu, by rw [upd_ne nqW, upd_same], L2.Paired.mapP hU2 fun a b h => h.mono (fun _ _ => trivial) (fun M zs' o e => lsK M zs' o.1 e) tk, ?_, fun v' H6 s6 hv' => ?_⟩
      · intro o ho r er
        obtain ⟨y, hy, rfl⟩ := List.mem_map.mp ho
        exact (hb y (hSn y (List.mem_append.mpr (.inr hy)))).2 r er
      have eW6 := s6 _ _ (upd_same (H := upd (upd H2 p (.tup zs)) q (.lst (us.drop S0.length))) (a := W) (o := .lst (us.take S0.length)))
      refine ⟨W, us.take S0.length, v', rfl, rfl, eW6, by rw [List.length_take, sizeLine_eq]; omega, ?_⟩
      have tk6 : TK H2 H6 := tk.trans (TK.of_same s6)
      have tk7 : TK H6 (upd H6 W (.lst (us.take S0.length ++ [v']))) := TK.upd_lst eW6
      refine ⟨_, _, _, us.take S0.length ++ [v'], S0 ++ [u], rfl, upd_same, same_over (s2.trans s6) hW, ?_, hN.mono (tk6.trans tk7), ?_, ?_, hR', ?_⟩
      · rw [upd_ne nWL.symm]
        refine s6 _ _ ?_
        rw [upd_ne nWL.symm, upd_ne npq, upd_ne npL]
        exact eL'
      · rw [List.map_append]
        refine Paired.snoc (L2.Paired.mapP hU1 fun a b h => h.mono (fun _ h => h) (fun M zs' o e => ?_) (tk6.trans tk7)) (hv'.mono (fun M nM => ⟨fun z => ?_, s2.free nM⟩) (fun M zs' nM e => ?_) tk7)
        · rw [upd_ne o.1]
          exact s6 _ _ (lsK M zs' o.1 e)
        · rw [z, upd_same] at nM
          cases nM
        · have : M ≠ W := fun z => by rw [z, upd_same] at nM; cases nM
          rw [upd_ne this]
          exact e
      · rw [List.length_append, List.length_singleton]
        omega
      · intro y hy
        rcases List.mem_append.mp hy with hy | hy
        · exact hSn y (List.mem_append.mpr (.inl hy))
        · rw [List.mem_singleton.mp hy]
          exact mu
    · rintro σ H' ⟨v4, v5, v6, us, S, rfl, eW, hs, eL', hN, hU, hSi, hR, hSn⟩
      rw [ln, ← List.length_reverse, List.drop_length] at hR
      obtain rfl := hR.end_
      cases hU with
      | @cons x _ xs _ hx hU =>
        exact ⟨_, rfl, W, _, _, _, rfl, rfl, SqL.of eW, atI_nat (j := 0) rfl, k _ _ hs (hx.mono (fun M h => h.2) (fun _ _ _ e => e) (TK.refl _))⟩
end
end U6

namespace U6
open PySem PySem.Spec PyProof.Rows L2 LamX KT
open PySem.W (Frag)
theorem cutV_last (us : List V) : cutV us none (some (-1)) = us.dropLast := by
  unfold cutV HT.sIx
  rw [List.dropLast_eq_take]
  simp only [List.drop_zero]
  congr 1
  split <;> omega
theorem atI_last {us : List V} {a : V} (h : us.getLast? = some a) : atI us (-1) = some a := by
  unfold atI ixN
  have hne : us ≠ [] := by rintro rfl; cases h
  have hl : 0 < us.length := List.length_pos_iff.mpr hne
  rw [if_neg (by omega), if_pos (by omega)]
  show us[(us.length + -1 : Int).toNat]? = _
  rw [List.getLast?_eq_getElem?] at h
  rw [show ((us.length : Int) + -1).toNat = us.length - 1 by omega]
  exact h
theorem tys_last {H : Hp} {us : List V} {ts : List Ty} (h : Tys H us ts) (hl : 0 < ts.length) : ∃ a, us.getLast? = some a ∧ TyAt H a (ts.getLastD (.w "")) := by
  induction h with
  | nil => simp at hl
  | @cons v t vs ts h r ih =>
    cases r with
    | nil => exact ⟨v, rfl, h⟩
    | cons h' r' =>
      obtain ⟨a, e1, e2⟩ := ih (by simp)
      exact ⟨a, by rw [List.getLast?_cons_cons]; exact e1, by simpa using e2⟩
theorem Tys.dropLast {H : Hp} {us : List V} {ts : List Ty} (h : Tys H us ts) : Tys H us.dropLast ts.dropLast := by
  induction h with
  | nil => exact .nil
  | @cons v t vs ts h r ih =>
    cases r with
    | nil => exact .nil
    | cons h' r' => exact .cons h ih
theorem Tys.drop {H : Hp} {us : List V} {ts : List Ty} (h : Tys H us ts) : ∀ n, Tys H (us.drop n) (ts.drop n) := by
  intro n
  induction n generalizing us ts with
  | zero => exact h
  | succ n ih =>
    cases h with
    | nil => exact .nil
    | cons a r => exact ih r
theorem Tys.take {H : Hp} {us : List V} {ts : List Ty} (h : Tys H us ts) : ∀ n, Tys H (us.take n) (ts.take n) := by
  intro n
  induction n generalizing us ts with
  | zero => exact .nil
  | succ n ih =>
    cases h with
    | nil => exact .nil
    | cons a r => exact .cons a (ih r)
theorem Tys.get {H : Hp} {us : List V} {ts : List Ty} (h : Tys H us ts) : ∀ {j : Nat} {t : Ty}, ts[j]? = some t → ∃ v, us[j]? = some v ∧ TyAt H v t := by
  induction h with
  | nil => intro j t e; simp at e
  | cons h _ ih =>
    intro j t e
    cases j with
    | zero =>
      obtain rfl := Option.some.inj (show some _ = some t from e)
      exact ⟨_, rfl, h⟩
    | succ j => exact ih (by simpa using e)
section
variable {P : Program} {w : World} {K : Frag} {mg : Str → Option Value} {base : Heap}
/-- of a knot of that name, whose parts all tell something -/
def spTeller (nm : Str) : Sp := fun vs H Q _ => ∃ x r L us rs, vs = [x, .ref L] ∧ DAt H x (.t (.s nm :: r)) ∧ Fm (.t (.s nm :: r)) ∧ H L = some (.lst us) ∧ Paired (fun v r => Res (fun _ => True) H v (some r)) us rs ∧ (D.t (.s nm :: r)).parts.map D.tl = rs.map some ∧ (∀ r ∈ rs, Small r) ∧
  ∀ v' H', Same H H' → Res (fun L => H L = none) H' v' (D.t (.s nm :: r)).tl → Q v' H'
theorem ok_tellIs {f : Addr} {fd : FuncData} (T : Top K mg "_tell_is" sTellIs pTellIs f fd) : FnOk P w K mg base CX0 1 f fd pTellIs (spTeller "is") := by
  refine T.F.ok scTellIs (fun vs H Q E h => ?_) (fun cdv A outer s H vs Q E hr h => ?_)
  · obtain ⟨_, _, _, _, _, rfl, _⟩ := h
    rfl
  · obtain ⟨x, r, L, us, rs, rfl, hd, f, eL, hp, hr2, hsm, k⟩ := h
    refine ⟨_, pss_one (ps_ret (pe_tup (pa_cons (pe_lst (pa_cons (pe_ix ix_tup (pv 0) pe_int (fun _ _ => rfl)) pa_nil)) (pa_cons (pe_ix ix_tup (pv 0) pe_int (fun _ _ => rfl)) pa_nil)))), ?_⟩
    obtain ⟨d, rfl, hkd⟩ : ∃ d, r = [d] ∧ d.isKd = true := by
      generalize hu : D.t (.s "is" :: r) = u at f
      cases f with
      | is h => injection hu with hu; injection hu with _ hu; exact ⟨_, hu, h⟩
      | _ => exact absurd hu (by simp)
    obtain ⟨kd, hk⟩ := Option.isSome_iff_exists.mp hkd
    cases hd with
    | @t p xs _ e h =>
      cases h with
      | cons h0 h => cases h with
        | @cons y _ _ _ h1 h => cases h with
          | nil =>
            cases h0
            have ty := h1.ty hk
            refine ⟨_, rfl, p, _, _, _, rfl, rfl, SqT.of e, atI_nat (j := 1) rfl, by show 1 ≤ sizeLine; rw [sizeLine_eq]; omega, fun M nM => ?_⟩
            have s1 := same_upd (o := .lst [y]) nM
            refine ⟨_, rfl, p, _, _, _, rfl, rfl, SqT.of (s1 _ _ e), atI_nat (j := 1) rfl, by show 2 ≤ sizeLine; rw [sizeLine_eq]; omega, fun q nq => ?_⟩
            have s2 := same_upd (o := .tup [.ref M, y]) nq
            have tyq := ty.mono (TK.of_same (s1.trans s2))
            refine k _ _ (s1.trans s2) ?_
            rw [tl_of (.is hk)]
            exact ⟨q, M, [y], y, rfl, nM, upd_same, s2 _ _ upd_same, .cons tyq .nil, tyq⟩
theorem ok_tellOm {f : Addr} {fd : FuncData} (T : Top K mg "_tell_over_made" sTellOverMade pTellOverMade f fd) (B : Blt mg) : FnOk P w K mg base CX0 1 f fd pTellOverMade (spTeller "over made") := by
  refine T.F.ok scTellOverMade (fun vs H Q E h => ?_) (fun cdv A outer s H vs Q E hr h => ?_)
  · obtain ⟨_, _, _, _, _, rfl, _⟩ := h
    rfl
  · obtain ⟨x, r, L, us, rs, rfl, hd, f, eL, hp, hr2, hsm, k⟩ := h
    refine ⟨_, (pss_cons (ps_asg (pe_ix ix_list (pv 1) pe_int (fun _ _ => rfl)) (pg_tup (by rfl) (pgs_cons (pg_name (i := 2) scTellOverMade.nd rfl (Or.inl rfl)) (pgs_cons (pg_name (i := 3) scTellOverMade.nd rfl (Or.inl rfl)) pgs_nil))))
      (pss_cons (ps_if (pt_cmpR op_lt (pe_callB call_len_seq (by rfl) B.len PySem.boot_len (pa_cons (pv 2) pa_nil)) pe_int (nomark _)) (pss_one (ps_ret pe_non)) pss_nil)
      (pss_one (ps_ret (pe_tup (pa_cons (pe_slice sl_list (pv 2) po_none (po_some (pe_un un_neg pe_int))) (pa_cons (pe_tup (pa_cons pe_str (pa_cons (pv 3) (pa_cons (pe_ix ix_list (pv 2) (pe_un un_neg pe_int) (fun _ _ => rfl)) pa_nil)))) pa_nil))))))), ?_⟩
    obtain ⟨d, rfl⟩ : ∃ d, r = [d] := by
      generalize hu : D.t (.s "over made" :: r) = u at f
      cases f with
      | om => injection hu with hu; injection hu with _ hu; exact ⟨_, hu⟩
      | _ => exact absurd hu (by simp)
    cases hp with
    | nil => cases hr2
    | @cons v0 r0 us' rs' h0 hp' =>
      have e0 : d.tl = some r0 := (List.cons.inj hr2).1
      obtain ⟨row, goal⟩ := r0
      obtain ⟨p, M, ms, g, rfl, _, ep, eM, hT, hg⟩ := h0
      have hsm0 := hsm _ List.mem_cons_self
      have lT := hT.length
      have lsm : row.length ≤ 40000 := hsm0.1
      refine ⟨_, rfl, L, _, _, _, rfl, rfl, SqL.of eL, atI_nat (j := 0) rfl, p, _, rfl, SqT.of ep, rfl, _, _, rfl, _, _, rfl, rfl, ?_⟩
      refine ⟨_, rfl, M, ms, rfl, .inl (SqL.of eM), _, _, rfl, rfl, _, rfl, ?_⟩
      by_cases c : row.length < 2
      · rw [decide_eq_true (show (ms.length : Int) < 2 by rw [lT]; exact Int.ofNat_lt.mpr c)]
        refine iteT (k _ H (Same.refl H) ?_)
        have et : (D.t [.s "over made", d]).tl = none := by simp [D.tl, tellOf, tlAll, e0, madeO, c]
        rw [et]
        rfl
      · rw [decide_eq_false (show ¬ (ms.length : Int) < 2 by rw [lT]; intro z; exact c (Int.ofNat_lt.mp z))]
        obtain ⟨a, ea, ta⟩ := tys_last hT (by show 0 < row.length; omega)
        refine iteF ⟨_, rfl, _, rfl, _, rfl, M, ms, rfl, SqL.of eM, fun N nN => ?_⟩
        have e1 : cutV ms none (some (-1)) = ms.dropLast := cutV_last ms
        rw [e1]
        have s1 := same_upd (o := .lst ms.dropLast) nN
        refine ⟨_, rfl, _, rfl, _, rfl, M, _, _, a, rfl, rfl, SqL.of (s1 _ _ eM), atI_last ea, by show 3 ≤ sizeLine; rw [sizeLine_eq]; omega, fun q1 n1 => ?_⟩
        have s2 := same_upd (o := .tup [.str "over", g, a]) n1
        refine ⟨by show 2 ≤ sizeLine; rw [sizeLine_eq]; omega, fun q2 n2 => ?_⟩
        have s3 := same_upd (o := .tup [.ref N, .ref q1]) n2
        have s13 := (s1.trans s2).trans s3
        refine k _ _ s13 ?_
        rw [tl_of (.om e0 (r := (row.dropLast, .n .ov goal (row.getLastD (.w "")))) (by simp [madeO, c]))]
        exact ⟨q2, N, ms.dropLast, .ref q1, rfl, nN, upd_same, (s2.trans s3) _ _ upd_same, hT.dropLast.mono (TK.of_same s13), .n (s3 _ _ upd_same) (hg.mono (TK.of_same s13)) (ta.mono (TK.of_same s13))⟩
theorem cutV_take (us : List V) (n : Nat) : cutV us none (some (n : Int)) = us.take n := by
  unfold cutV
  rw [HT.sIx_nat]
  have e : HT.sIx us.length 0 none = 0 := rfl
  rw [e, List.drop_zero, Nat.sub_zero]
  by_cases h : n ≤ us.length
  · rw [Nat.min_eq_left h]
  · rw [Nat.min_eq_right (by omega), List.take_of_length_le (Nat.le_refl _), List.take_of_length_le (by omega)]
theorem fm_um {r : List D} (f : Fm (.t (.s "under made" :: r))) : ∃ d, r = [d] := by
  generalize hu : D.t (.s "under made" :: r) = u at f
  cases f with
  | um => injection hu with hu; injection hu with _ hu; exact ⟨_, hu⟩
  | _ => exact absurd hu (by simp)
theorem fm_tm {r : List D} (f : Fm (.t (.s "then made" :: r))) : ∃ x y, r = [x, y] := by
  generalize hu : D.t (.s "then made" :: r) = u at f
  cases f with
  | tm => injection hu with hu; injection hu with _ hu; exact ⟨_, _, hu⟩
  | _ => exact absurd hu (by simp)
theorem fm_tu {r : List D} (f : Fm (.t (.s "then used" :: r))) : ∃ (n : Nat) (y : D), r = [.i n, y] := by
  generalize hu : D.t (.s "then used" :: r) = u at f
  cases f with
  | @tu p y h => injection hu with hu; injection hu with _ hu; exact ⟨p.toNat, y, by rw [hu, Int.toNat_of_nonneg h]⟩
  | _ => exact absurd hu (by simp)
theorem fm_ou {r : List D} (f : Fm (.t (.s "over used" :: r))) : ∃ (n : Nat) (x y : D), r = [.i n, x, y] := by
  generalize hu : D.t (.s "over used" :: r) = u at f
  cases f with
  | @ou p x y h => injection hu with hu; injection hu with _ hu; exact ⟨p.toNat, x, y, by rw [hu, Int.toNat_of_nonneg h]⟩
  | _ => exact absurd hu (by simp)
theorem fm_uu {r : List D} (f : Fm (.t (.s "under used" :: r))) : ∃ (n : Nat) (x y : D), r = [.i n, x, y] := by
  generalize hu : D.t (.s "under used" :: r) = u at f
  cases f with
  | @uu p x y h => injection hu with hu; injection hu with _ hu; exact ⟨p.toNat, x, y, by rw [hu, Int.toNat_of_nonneg h]⟩
  | _ => exact absurd hu (by simp)
theorem fm_ct {r : List D} (f : Fm (.t (.s "cut" :: r))) : ∃ (n : Nat) (x y : D), r = [.i n, x, y] := by
  generalize hu : D.t (.s "cut" :: r) = u at f
  cases f with
  | @ct p x y h => injection hu with hu; injection hu with _ hu; exact ⟨p.toNat, x, y, by rw [hu, Int.toNat_of_nonneg h]⟩
  | _ => exact absurd hu (by simp)
theorem ok_tellUm {f : Addr} {fd : FuncData} (T : Top K mg "_tell_under_made" sTellUnderMade pTellUnderMade f fd) (B : Blt mg) : FnOk P w K mg base CX0 1 f fd pTellUnderMade (spTeller "under made") := by
  refine T.F.ok scTellUnderMade (fun vs H Q E h => ?_) (fun cdv A outer s H vs Q E hr h => ?_)
  · obtain ⟨_, _, _, _, _, rfl, _⟩ := h
    rfl
  · obtain ⟨x, r, L, us, rs, rfl, hd, f, eL, hp, hr2, hsm, k⟩ := h
    refine ⟨_, (pss_cons (ps_asg (pe_ix ix_list (pv 1) pe_int (fun _ _ => rfl)) (pg_tup (by rfl) (pgs_cons (pg_name (i := 2) scTellUnderMade.nd rfl (Or.inl rfl)) (pgs_cons (pg_name (i := 3) scTellUnderMade.nd rfl (Or.inl rfl)) pgs_nil))))
      (pss_cons (ps_if (pt_cmpR op_lt (pe_callB call_len_seq (by rfl) B.len PySem.boot_len (pa_cons (pv 2) pa_nil)) pe_int (nomark _)) (pss_one (ps_ret pe_non)) pss_nil)
      (pss_one (ps_ret (pe_tup (pa_cons (pe_slice sl_list (pv 2) (po_some pe_int) po_none) (pa_cons (pe_tup (pa_cons pe_str (pa_cons (pe_ix ix_list (pv 2) pe_int (fun _ _ => rfl)) (pa_cons (pv 3) pa_nil)))) pa_nil))))))), ?_⟩
    obtain ⟨d, rfl⟩ := fm_um f
    cases hp with
    | nil => cases hr2
    | @cons v0 r0 us' rs' h0 hp' =>
      have e0 : d.tl = some r0 := (List.cons.inj hr2).1
      obtain ⟨row, goal⟩ := r0
      obtain ⟨p, M, ms, g, rfl, _, ep, eM, hT, hg⟩ := h0
      have lT := hT.length
      have lsm : row.length ≤ 40000 := (hsm _ List.mem_cons_self).1
      refine ⟨_, rfl, L, _, _, _, rfl, rfl, SqL.of eL, atI_nat (j := 0) rfl, p, _, rfl, SqT.of ep, rfl, _, _, rfl, _, _, rfl, rfl, ?_⟩
      refine ⟨_, rfl, M, ms, rfl, .inl (SqL.of eM), _, _, rfl, rfl, _, rfl, ?_⟩
      by_cases c : row.length < 2
      · rw [decide_eq_true (show (ms.length : Int) < 2 by rw [lT]; exact Int.ofNat_lt.mpr c)]
        refine iteT (k _ H (Same.refl H) ?_)
        have et : (D.t [.s "under made", d]).tl = none := by
          have em : madeU (row, goal) = none := by
            rcases row with _ | ⟨a, _ | ⟨b, r⟩⟩
            · rfl
            · rfl
            · simp at c; omega
          simp [D.tl, tellOf, tlAll, e0, em]
        rw [et]
        rfl
      · rw [decide_eq_false (show ¬ (ms.length : Int) < 2 by rw [lT]; intro z; exact c (Int.ofNat_lt.mp z))]
        rcases row with _ | ⟨a, _ | ⟨b, row⟩⟩
        · simp at c
        · simp at c
        · cases hT with
          | @cons va _ ms _ ta hT =>
            refine iteF ⟨_, rfl, _, rfl, M, _, rfl, SqL.of eM, fun N nN => ?_⟩
            have e1 : cutV (va :: ms) (some 1) none = ms := cutV_from (b := 1)
            rw [e1]
            have s1 := same_upd (o := .lst ms) nN
            refine ⟨_, rfl, M, _, _, va, rfl, rfl, SqL.of (s1 _ _ eM), atI_nat (j := 0) rfl, _, rfl, by show 3 ≤ sizeLine; rw [sizeLine_eq]; omega, fun q1 n1 => ?_⟩
            have s2 := same_upd (o := .tup [.str "under", va, g]) n1
            refine ⟨by show 2 ≤ sizeLine; rw [sizeLine_eq]; omega, fun q2 n2 => ?_⟩
            have s3 := same_upd (o := .tup [.ref N, .ref q1]) n2
            have s13 := (s1.trans s2).trans s3
            refine k _ _ s13 ?_
            rw [tl_of (.um e0 (r := (b :: row, .n .un a goal)) rfl)]
            exact ⟨q2, N, ms, .ref q1, rfl, nN, upd_same, (s2.trans s3) _ _ upd_same, hT.mono (TK.of_same s13), .n (s3 _ _ upd_same) (ta.mono (TK.of_same s13)) (hg.mono (TK.of_same s13))⟩
theorem ok_tellTm {f : Addr} {fd : FuncData} (T : Top K mg "_tell_then_made" sTellThenMade pTellThenMade f fd) (B : Blt mg) : FnOk P w K mg base CX0 1 f fd pTellThenMade (spTeller "then made") := by
  refine T.F.ok scTellThenMade (fun vs H Q E h => ?_) (fun cdv A outer s H vs Q E hr h => ?_)
  · obtain ⟨_, _, _, _, _, rfl, _⟩ := h
    rfl
  · obtain ⟨x, r, L, us, rs, rfl, hd, f, eL, hp, hr2, hsm, k⟩ := h
    refine ⟨_, (pss_cons (ps_asg (pv 1) (pg_lst (by rfl) (pgs_cons (pg_tup (by rfl) (pgs_cons (pg_name (i := 2) scTellThenMade.nd rfl (Or.inl rfl)) (pgs_cons (pg_name (i := 3) scTellThenMade.nd rfl (Or.inl rfl)) pgs_nil)))
        (pgs_cons (pg_tup (by rfl) (pgs_cons (pg_name (i := 4) scTellThenMade.nd rfl (Or.inl rfl)) (pgs_cons (pg_name (i := 5) scTellThenMade.nd rfl (Or.inl rfl)) pgs_nil))) pgs_nil))))
      (pss_one (ps_ret (pe_tup (pa_cons (pe_op op_cat (pv 2) (pv 4)) (pa_cons (pe_tup (pa_cons pe_str (pa_cons (pv 3) (pa_cons (pv 5) pa_nil)))) pa_nil)))))), ?_⟩
    obtain ⟨d1, d2, rfl⟩ := fm_tm f
    have epp : (D.t [.s "then made", d1, d2]).parts = [d1, d2] := by simp [D.parts]
    rw [epp] at hr2
    cases hp with
    | nil => cases hr2
    | @cons v0 r0 us' rs' h0 hp' => cases hp' with
      | nil => exact absurd (congrArg List.length hr2) (by simp)
      | @cons v1 r1 us' rs' h1 hp' => cases hp' with
        | cons _ _ => exact absurd (congrArg List.length hr2) (by simp)
        | nil =>
          have e0 : d1.tl = some r0 := (List.cons.inj hr2).1
          have e1 : d2.tl = some r1 := (List.cons.inj (List.cons.inj hr2).2).1
          obtain ⟨row, goal⟩ := r0
          obtain ⟨row2, goal2⟩ := r1
          obtain ⟨p, M, ms, g, rfl, _, ep, eM, hT, hg⟩ := h0
          obtain ⟨p2, M2, ms2, g2, rfl, _, ep2, eM2, hT2, hg2⟩ := h1
          have lT := hT.length
          have lT2 := hT2.length
          have lsm : row.length ≤ 40000 := (hsm _ List.mem_cons_self).1
          have lsm2 : row2.length ≤ 40000 := (hsm _ (List.mem_cons_of_mem _ List.mem_cons_self)).1
          have lT' : ms.length = row.length := lT
          have lT2' : ms2.length = row2.length := lT2
          refine ⟨_, rfl, L, _, rfl, SqL.of eL, rfl, _, _, rfl, ⟨p, _, rfl, SqT.of ep, rfl, _, _, rfl, _, _, rfl, rfl, _, _, rfl, ⟨p2, _, rfl, SqT.of ep2, rfl, _, _, rfl, _, _, rfl, rfl, rfl, ?_⟩⟩⟩
          refine ⟨_, rfl, _, rfl, M, M2, _, _, rfl, rfl, eM, eM2, by rw [sizeLine_eq]; omega, fun N nN => ?_⟩
          have s1 := same_upd (o := .lst (ms ++ ms2)) nN
          refine ⟨_, rfl, _, rfl, by show 3 ≤ sizeLine; rw [sizeLine_eq]; omega, fun q1 n1 => ?_⟩
          have s2 := same_upd (o := .tup [.str "then", g, g2]) n1
          refine ⟨by show 2 ≤ sizeLine; rw [sizeLine_eq]; omega, fun q2 n2 => ?_⟩
          have s3 := same_upd (o := .tup [.ref N, .ref q1]) n2
          have s13 := (s1.trans s2).trans s3
          refine k _ _ s13 ?_
          rw [tl_of (.tm e0 e1)]
          exact ⟨q2, N, ms ++ ms2, .ref q1, rfl, nN, upd_same, (s2.trans s3) _ _ upd_same, (hT.append hT2).mono (TK.of_same s13), .n (s3 _ _ upd_same) (hg.mono (TK.of_same s13)) (hg2.mono (TK.of_same s13))⟩
end
end U6

namespace U6
open PySem PySem.Spec PyProof.Rows L2 LamX KT
open PySem.W (Frag)
section
variable {P : Program} {w : World} {K : Frag} {mg : Str → Option Value} {base : Heap}
theorem ok_tellOverUsed {f : Addr} {fd : FuncData} (T : Top K mg "_tell_over_used" sTellOverUsed pTellOverUsed f fd) (B : Blt mg) : FnOk P w K mg base CX0 1 f fd pTellOverUsed (spTeller "over used") := by
  refine T.F.ok scTellOverUsed (fun vs H Q E h => ?_) (fun cdv A outer s H vs Q E hr h => ?_)
  · obtain ⟨_, _, _, _, _, rfl, _⟩ := h
    rfl
  · obtain ⟨x, r, L, us, rs, rfl, hd, f, eL, hp, hr2, hsm, k⟩ := h
    refine ⟨_, (pss_cons (ps_set (i := 2) scTellOverUsed.nd rfl (Or.inl rfl) (pe_ix ix_tup (pv 0) pe_int (fun _ _ => rfl)))
      (pss_cons (ps_asg (pv 1) (pg_lst (by rfl) (pgs_cons (pg_tup (by rfl) (pgs_cons (pg_name (i := 3) scTellOverUsed.nd rfl (Or.inl rfl)) (pgs_cons (pg_name (i := 4) scTellOverUsed.nd rfl (Or.inl rfl)) pgs_nil)))
        (pgs_cons (pg_tup (by rfl) (pgs_cons (pg_name (i := 5) scTellOverUsed.nd rfl (Or.inl rfl)) (pgs_cons (pg_name (i := 6) scTellOverUsed.nd rfl (Or.inl rfl)) pgs_nil))) pgs_nil))))
      (pss_cons (ps_if (pt_cmpR op_ge (pv 2) (pe_callB call_len_seq (by rfl) B.len PySem.boot_len (pa_cons (pv 5) pa_nil)) (nomark _)) (pss_one (ps_ret pe_non)) pss_nil)
      (pss_one (ps_ret (pe_tup (pa_cons (pe_op op_cat (pe_op op_cat (pe_op op_cat (pe_slice sl_list (pv 5) po_none (po_some (pv 2))) (pe_lst (pa_cons (pe_tup (pa_cons pe_str (pa_cons (pe_ix ix_list (pv 5) (pv 2) (fun _ _ => rfl)) (pa_cons (pv 4) pa_nil)))) pa_nil))) (pv 3)) (pe_slice sl_list (pv 5) (po_some (pe_op op_add (pv 2) pe_int)) po_none)) (pa_cons (pv 6) pa_nil)))))))), ?_⟩
    obtain ⟨n, d1, d2, rfl⟩ := fm_ou f
    have epp : (D.t [.s "over used", .i n, d1, d2]).parts = [d1, d2] := by simp [D.parts]
    rw [epp] at hr2
    cases hp with
    | nil => exact absurd (congrArg List.length hr2) (by simp)
    | @cons v0 r0 us' rs' h0 hp' => cases hp' with
      | nil => exact absurd (congrArg List.length hr2) (by simp)
      | @cons v1 r1 us' rs' h1 hp' => cases hp' with
        | cons _ _ => exact absurd (congrArg List.length hr2) (by simp)
        | nil =>
          have e0 : d1.tl = some r0 := (List.cons.inj hr2).1
          have e1 : d2.tl = some r1 := (List.cons.inj (List.cons.inj hr2).2).1
          obtain ⟨row, goal⟩ := r0
          obtain ⟨row2, goal2⟩ := r1
          obtain ⟨p, M, ms, g, rfl, _, ep, eM, hT, hg⟩ := h0
          obtain ⟨p2, M2, ms2, g2, rfl, _, ep2, eM2, hT2, hg2⟩ := h1
          have hsm1 := hsm _ List.mem_cons_self
          have hsm2 := hsm _ (List.mem_cons_of_mem _ List.mem_cons_self)
          have lsm : row.length ≤ 40000 := hsm1.1
          have lsm2 : row2.length ≤ 40000 := hsm2.1
          have lT : ms.length = row.length := hT.length
          have lT2 : ms2.length = row2.length := hT2.length
          have hT : Tys H ms row := hT
          have hT2 : Tys H ms2 row2 := hT2
          have hg : TyAt H g goal := hg
          have hg2 : TyAt H g2 goal2 := hg2
          cases hd with
          | @t pk xs _ ek hk =>
            cases hk with
            | cons k0 hk => cases hk with
              | cons k1 hk =>
                cases k0
                cases k1
                refine ⟨_, rfl, pk, _, _, _, rfl, rfl, SqT.of ek, atI_nat (j := 1) rfl, ?_⟩
                refine ⟨_, rfl, L, _, rfl, SqL.of eL, rfl, _, _, rfl, ⟨p, _, rfl, SqT.of ep, rfl, _, _, rfl, _, _, rfl, rfl, _, _, rfl, ⟨p2, _, rfl, SqT.of ep2, rfl, _, _, rfl, _, _, rfl, rfl, rfl, ?_⟩⟩⟩
                refine ⟨_, rfl, _, rfl, M2, ms2, rfl, .inl (SqL.of eM2), _, _, rfl, rfl, _, rfl, ?_⟩
                by_cases c : row2.length ≤ n
                · rw [decide_eq_true (show (n : Int) ≥ (ms2.length : Int) by rw [lT2]; exact Int.ofNat_le.mpr c)]
                  refine iteT (k _ H (Same.refl H) ?_)
                  have et : (D.t [.s "over used", .i n, d1, d2]).tl = none := by
                    have e9 : row2[n]? = none := List.getElem?_eq_none c
                    simp [D.tl, tellOf, tlAll, e0, e1, both, placed, usedAt, e9]
                  rw [et]
                  rfl
                · rw [decide_eq_false (show ¬ (n : Int) ≥ (ms2.length : Int) by rw [lT2]; intro z; exact c (Int.ofNat_le.mp z))]
                  have ek2 : row2[n]? = some (row2[n]'(by omega)) := List.getElem?_eq_getElem (by omega)
                  generalize row2[n]'(by omega) = kd at ek2
                  obtain ⟨vk, evk, tvk⟩ := hT2.get ek2
                  refine iteF ⟨_, rfl, _, rfl, _, rfl, M2, ms2, rfl, SqL.of eM2, fun A1 nA => ?_⟩
                  rw [cutV_take]
                  have s1 := same_upd (o := .lst (ms2.take n)) nA
                  refine ⟨_, rfl, _, rfl, M2, _, _, vk, rfl, rfl, SqL.of (s1 _ _ eM2), atI_nat evk, _, rfl, by show 3 ≤ sizeLine; rw [sizeLine_eq]; omega, fun B1 nB => ⟨by show 1 ≤ sizeLine; rw [sizeLine_eq]; omega, fun C1 nC => ?_⟩⟩
                  have s2 := same_upd (o := .tup [.str "over", vk, g]) nB
                  have s3 := same_upd (o := .lst [.ref B1]) nC
                  refine ⟨A1, C1, _, _, rfl, rfl, (s2.trans s3) _ _ upd_same, upd_same, by rw [List.length_take, sizeLine_eq]; simp only [List.length_singleton]; omega, fun E1 nE => ?_⟩
                  have s4 := same_upd (o := .lst (ms2.take n ++ [.ref B1])) nE
                  have s14 := ((s1.trans s2).trans s3).trans s4
                  refine ⟨_, rfl, E1, M, _, _, rfl, rfl, upd_same, s14 _ _ eM, by rw [List.length_append, List.length_take, sizeLine_eq]; simp only [List.length_singleton]; omega, fun F1 nF => ?_⟩
                  have s5 := same_upd (o := .lst (ms2.take n ++ [.ref B1] ++ ms)) nF
                  refine ⟨_, rfl, _, rfl, _, _, rfl, rfl, _, rfl, M2, ms2, rfl, SqL.of ((s14.trans s5) _ _ eM2), fun G1 nG => ?_⟩
                  have ec : cutV ms2 (some ((n : Int) + 1)) none = ms2.drop (n + 1) := cutV_from (b := n + 1)
                  rw [ec]
                  have s6 := same_upd (o := .lst (ms2.drop (n + 1))) nG
                  refine ⟨F1, G1, _, _, rfl, rfl, s6 _ _ upd_same, upd_same, by simp only [List.length_append, List.length_take, List.length_drop, List.length_singleton]; rw [sizeLine_eq]; omega, fun N nN => ?_⟩
                  have s7 := same_upd (o := .lst (ms2.take n ++ [.ref B1] ++ ms ++ ms2.drop (n + 1))) nN
                  refine ⟨_, rfl, by show 2 ≤ sizeLine; rw [sizeLine_eq]; omega, fun q2 n2 => ?_⟩
                  have s8 := same_upd (o := .tup [.ref N, g2]) n2
                  have s16 := (s14.trans s5).trans s6
                  have s18 := (s16.trans s7).trans s8
                  refine k _ _ s18 ?_
                  have et : usedAt "over used" n (row, goal) (row2, goal2) = some (row2.take n ++ [.n .ov kd goal] ++ row ++ row2.drop (n + 1), goal2) := by
                    simp [usedAt, ek2]
                  rw [tl_of (.us (by decide) e0 e1 et)]
                  have tB := (((((s3.trans s4).trans s5).trans s6).trans s7).trans s8) _ _ (upd_same (a := B1) (o := .tup [.str "over", vk, g]))
                  exact ⟨q2, N, _, g2, rfl, s16.free nN, upd_same, s8 _ _ upd_same, (((hT2.take n).mono (TK.of_same s18)).append (.cons (.n tB (tvk.mono (TK.of_same s18)) (hg.mono (TK.of_same s18))) .nil)).append (hT.mono (TK.of_same s18)) |>.append ((hT2.drop (n + 1)).mono (TK.of_same s18)), hg2.mono (TK.of_same s18)⟩
theorem ok_tellUnderUsed {f : Addr} {fd : FuncData} (T : Top K mg "_tell_under_used" sTellUnderUsed pTellUnderUsed f fd) (B : Blt mg) : FnOk P w K mg base CX0 1 f fd pTellUnderUsed (spTeller "under used") := by
  refine T.F.ok scTellUnderUsed (fun vs H Q E h => ?_) (fun cdv A outer s H vs Q E hr h => ?_)
  · obtain ⟨_, _, _, _, _, rfl, _⟩ := h
    rfl
  · obtain ⟨x, r, L, us, rs, rfl, hd, f, eL, hp, hr2, hsm, k⟩ := h
    refine ⟨_, (pss_cons (ps_set (i := 2) scTellUnderUsed.nd rfl (Or.inl rfl) (pe_ix ix_tup (pv 0) pe_int (fun _ _ => rfl)))
      (pss_cons (ps_asg (pv 1) (pg_lst (by rfl) (pgs_cons (pg_tup (by rfl) (pgs_cons (pg_name (i := 3) scTellUnderUsed.nd rfl (Or.inl rfl)) (pgs_cons (pg_name (i := 4) scTellUnderUsed.nd rfl (Or.inl rfl)) pgs_nil)))
        (pgs_cons (pg_tup (by rfl) (pgs_cons (pg_name (i := 5) scTellUnderUsed.nd rfl (Or.inl rfl)) (pgs_cons (pg_name (i := 6) scTellUnderUsed.nd rfl (Or.inl rfl)) pgs_nil))) pgs_nil))))
      (pss_cons (ps_if (pt_cmpR op_ge (pv 2) (pe_callB call_len_seq (by rfl) B.len PySem.boot_len (pa_cons (pv 5) pa_nil)) (nomark _)) (pss_one (ps_ret pe_non)) pss_nil)
      (pss_one (ps_ret (pe_tup (pa_cons (pe_op op_cat (pe_op op_cat (pe_op op_cat (pe_slice sl_list (pv 5) po_none (po_some (pv 2))) (pv 3)) (pe_lst (pa_cons (pe_tup (pa_cons pe_str (pa_cons (pv 4) (pa_cons (pe_ix ix_list (pv 5) (pv 2) (fun _ _ => rfl)) pa_nil)))) pa_nil))) (pe_slice sl_list (pv 5) (po_some (pe_op op_add (pv 2) pe_int)) po_none)) (pa_cons (pv 6) pa_nil)))))))), ?_⟩
    obtain ⟨n, d1, d2, rfl⟩ := fm_uu f
    have epp : (D.t [.s "under used", .i n, d1, d2]).parts = [d1, d2] := by simp [D.parts]
    rw [epp] at hr2
    cases hp with
    | nil => exact absurd (congrArg List.length hr2) (by simp)
    | @cons v0 r0 us' rs' h0 hp' => cases hp' with
      | nil => exact absurd (congrArg List.length hr2) (by simp)
      | @cons v1 r1 us' rs' h1 hp' => cases hp' with
        | cons _ _ => exact absurd (congrArg List.length hr2) (by simp)
        | nil =>
          have e0 : d1.tl = some r0 := (List.cons.inj hr2).1
          have e1 : d2.tl = some r1 := (List.cons.inj (List.cons.inj hr2).2).1
          obtain ⟨row, goal⟩ := r0
          obtain ⟨row2, goal2⟩ := r1
          obtain ⟨p, M, ms, g, rfl, _, ep, eM, hT, hg⟩ := h0
          obtain ⟨p2, M2, ms2, g2, rfl, _, ep2, eM2, hT2, hg2⟩ := h1
          have hsm1 := hsm _ List.mem_cons_self
          have hsm2 := hsm _ (List.mem_cons_of_mem _ List.mem_cons_self)
          have lsm : row.length ≤ 40000 := hsm1.1
          have lsm2 : row2.length ≤ 40000 := hsm2.1
          have lT : ms.length = row.length := hT.length
          have lT2 : ms2.length = row2.length := hT2.length
          have hT : Tys H ms row := hT
          have hT2 : Tys H ms2 row2 := hT2
          have hg : TyAt H g goal := hg
          have hg2 : TyAt H g2 goal2 := hg2
          cases hd with
          | @t pk xs _ ek hk =>
            cases hk with
            | cons k0 hk => cases hk with
              | cons k1 hk =>
                cases k0
                cases k1
                refine ⟨_, rfl, pk, _, _, _, rfl, rfl, SqT.of ek, atI_nat (j := 1) rfl, ?_⟩
                refine ⟨_, rfl, L, _, rfl, SqL.of eL, rfl, _, _, rfl, ⟨p, _, rfl, SqT.of ep, rfl, _, _, rfl, _, _, rfl, rfl, _, _, rfl, ⟨p2, _, rfl, SqT.of ep2, rfl, _, _, rfl, _, _, rfl, rfl, rfl, ?_⟩⟩⟩
                refine ⟨_, rfl, _, rfl, M2, ms2, rfl, .inl (SqL.of eM2), _, _, rfl, rfl, _, rfl, ?_⟩
                by_cases c : row2.length ≤ n
                · rw [decide_eq_true (show (n : Int) ≥ (ms2.length : Int) by rw [lT2]; exact Int.ofNat_le.mpr c)]
                  refine iteT (k _ H (Same.refl H) ?_)
                  have et : (D.t [.s "under used", .i n, d1, d2]).tl = none := by
                    have e9 : row2[n]? = none := List.getElem?_eq_none c
                    simp [D.tl, tellOf, tlAll, e0, e1, both, placed, usedAt, e9]
                  rw [et]
                  rfl
                · rw [decide_eq_false (show ¬ (n : Int) ≥ (ms2.length : Int) by rw [lT2]; intro z; exact c (Int.ofNat_le.mp z))]
                  have ek2 : row2[n]? = some (row2[n]'(by omega)) := List.getElem?_eq_getElem (by omega)
                  generalize row2[n]'(by omega) = kd at ek2
                  obtain ⟨vk, evk, tvk⟩ := hT2.get ek2
                  refine iteF ⟨_, rfl, _, rfl, _, rfl, M2, ms2, rfl, SqL.of eM2, fun A1 nA => ?_⟩
                  rw [cutV_take]
                  have s1 := same_upd (o := .lst (ms2.take n)) nA
                  refine ⟨_, rfl, A1, M, _, _, rfl, rfl, upd_same, s1 _ _ eM, by rw [List.length_take, sizeLine_eq]; omega, fun E1 nE => ?_⟩
                  have s2 := same_upd (o := .lst (ms2.take n ++ ms)) nE
                  refine ⟨_, rfl, _, rfl, _, rfl, M2, _, _, vk, rfl, rfl, SqL.of ((s1.trans s2) _ _ eM2), atI_nat evk, by show 3 ≤ sizeLine; rw [sizeLine_eq]; omega, fun B1 nB => ⟨by show 1 ≤ sizeLine; rw [sizeLine_eq]; omega, fun C1 nC => ?_⟩⟩
                  have s3 := same_upd (o := .tup [.str "under", g, vk]) nB
                  have s4 := same_upd (o := .lst [.ref B1]) nC
                  have s14 := ((s1.trans s2).trans s3).trans s4
                  refine ⟨E1, C1, _, _, rfl, rfl, (s3.trans s4) _ _ upd_same, upd_same, by rw [List.length_append, List.length_take, sizeLine_eq]; simp only [List.length_singleton]; omega, fun F1 nF => ?_⟩
                  have s5 := same_upd (o := .lst (ms2.take n ++ ms ++ [.ref B1])) nF
                  refine ⟨_, rfl, _, rfl, _, _, rfl, rfl, _, rfl, M2, ms2, rfl, SqL.of ((s14.trans s5) _ _ eM2), fun G1 nG => ?_⟩
                  have ec : cutV ms2 (some ((n : Int) + 1)) none = ms2.drop (n + 1) := cutV_from (b := n + 1)
                  rw [ec]
                  have s6 := same_upd (o := .lst (ms2.drop (n + 1))) nG
                  refine ⟨F1, G1, _, _, rfl, rfl, s6 _ _ upd_same, upd_same, by simp only [List.length_append, List.length_take, List.length_drop, List.length_singleton]; rw [sizeLine_eq]; omega, fun N nN => ?_⟩
                  have s7 := same_upd (o := .lst (ms2.take n ++ ms ++ [.ref B1] ++ ms2.drop (n + 1))) nN
                  refine ⟨_, rfl, by show 2 ≤ sizeLine; rw [sizeLine_eq]; omega, fun q2 n2 => ?_⟩
                  have s8 := same_upd (o := .tup [.ref N, g2]) n2
                  have s16 := (s14.trans s5).trans s6
                  have s18 := (s16.trans s7).trans s8
                  refine k _ _ s18 ?_
                  have et : usedAt "under used" n (row, goal) (row2, goal2) = some (row2.take n ++ row ++ [.n .un goal kd] ++ row2.drop (n + 1), goal2) := by
                    simp [usedAt, ek2]
                  rw [tl_of (.us (by decide) e0 e1 et)]
                  have tB := (((((s4).trans s5).trans s6).trans s7).trans s8) _ _ (upd_same (a := B1) (o := .tup [.str "under", g, vk]))
                  exact ⟨q2, N, _, g2, rfl, s16.free nN, upd_same, s8 _ _ upd_same, (((hT2.take n).mono (TK.of_same s18)).append (hT.mono (TK.of_same s18))).append (.cons (.n tB (hg.mono (TK.of_same s18)) (tvk.mono (TK.of_same s18))) .nil) |>.append ((hT2.drop (n + 1)).mono (TK.of_same s18)), hg2.mono (TK.of_same s18)⟩
end
end U6

namespace U6
open PySem PySem.Spec PyProof.Rows L2 LamX KT
open PySem.W (Frag)
theorem hu64 {A : Around} {k : Nat} (hr : Room k A) : A.units + 64 < cLine := by have := hr.un; omega
theorem sg_inj : ∀ a b : Sg, PyData.eqv (.str a.str) (.str b.str) = decide (a = b) := by
  intro a b
  cases a <;> cases b <;> decide +kernel
theorem eqv_ty : ∀ a b : Ty, PyData.eqv a.d.py b.d.py = decide (a = b) := by
  intro a
  induction a with
  | w z =>
    intro b
    cases b with
    | w y =>
      simp only [Ty.d, D.py, PyData.eqv, Ty.w.injEq]
      rw [Bool.eq_iff_iff, beq_iff_eq, decide_eq_true_eq]
    | n g x y => simp [Ty.d, D.py, PyData.eqv]
  | n g x y i j =>
    intro b
    cases b with
    | w z => simp [Ty.d, D.py, PyData.eqv]
    | n h x' y' =>
      have e : PyData.eqv (Ty.n g x y).d.py (Ty.n h x' y').d.py = (PyData.eqv (.str g.str) (.str h.str) && (PyData.eqv x.d.py x'.d.py && (PyData.eqv y.d.py y'.d.py && true))) := by
        simp only [Ty.d, D.py, pyAll, PyData.eqv, PyData.eqvAll]
      rw [e, sg_inj, i, j]
      simp only [Ty.n.injEq, Bool.and_true]
      by_cases h1 : g = h <;> by_cases h2 : x = x' <;> by_cases h3 : y = y' <;> simp [h1, h2, h3]
section
variable {P : Program} {w : World} {K : Frag} {mg : Str → Option Value} {base : Heap}
theorem ok_tellCut {f : Addr} {fd : FuncData} (T : Top K mg "_tell_cut" sTellCut pTellCut f fd) (B : Blt mg) : FnOk P w K mg base CX0 1 f fd pTellCut (spTeller "cut") := by
  refine T.F.ok scTellCut (fun vs H Q E h => ?_) (fun cdv A outer s H vs Q E hr h => ?_)
  · obtain ⟨_, _, _, _, _, rfl, _⟩ := h
    rfl
  · obtain ⟨x, r, L, us, rs, rfl, hd, f, eL, hp, hr2, hsm, k⟩ := h
    refine ⟨_, (pss_cons (ps_set (i := 2) scTellCut.nd rfl (Or.inl rfl) (pe_ix ix_tup (pv 0) pe_int (fun _ _ => rfl)))
      (pss_cons (ps_asg (pv 1) (pg_lst (by rfl) (pgs_cons (pg_tup (by rfl) (pgs_cons (pg_name (i := 3) scTellCut.nd rfl (Or.inl rfl)) (pgs_cons (pg_name (i := 4) scTellCut.nd rfl (Or.inl rfl)) pgs_nil)))
        (pgs_cons (pg_tup (by rfl) (pgs_cons (pg_name (i := 5) scTellCut.nd rfl (Or.inl rfl)) (pgs_cons (pg_name (i := 6) scTellCut.nd rfl (Or.inl rfl)) pgs_nil))) pgs_nil))))
      (pss_cons (ps_if (PW.pt (pw_or (pt_cmpR op_ge (pv 2) (pe_callB call_len_seq (by rfl) B.len PySem.boot_len (pa_cons (pv 5) pa_nil)) (nomark _)) (pw_or1 (pt_cmpR (op_neD (hu64 hr)) (pe_ix ix_list (pv 5) (pv 2) (fun _ _ => rfl)) (pv 4) (nomark _))))) (pss_one (ps_ret pe_non)) pss_nil)
      (pss_one (ps_ret (pe_tup (pa_cons (pe_op op_cat (pe_op op_cat (pe_slice sl_list (pv 5) po_none (po_some (pv 2))) (pv 3)) (pe_slice sl_list (pv 5) (po_some (pe_op op_add (pv 2) pe_int)) po_none)) (pa_cons (pv 6) pa_nil)))))))), ?_⟩
    obtain ⟨n, d1, d2, rfl⟩ := fm_ct f
    have epp : (D.t [.s "cut", .i n, d1, d2]).parts = [d1, d2] := by simp [D.parts]
    rw [epp] at hr2
    cases hp with
    | nil => exact absurd (congrArg List.length hr2) (by simp)
    | @cons v0 r0 us' rs' h0 hp' => cases hp' with
      | nil => exact absurd (congrArg List.length hr2) (by simp)
      | @cons v1 r1 us' rs' h1 hp' => cases hp' with
        | cons _ _ => exact absurd (congrArg List.length hr2) (by simp)
        | nil =>
          have e0 : d1.tl = some r0 := (List.cons.inj hr2).1
          have e1 : d2.tl = some r1 := (List.cons.inj (List.cons.inj hr2).2).1
          obtain ⟨row, goal⟩ := r0
          obtain ⟨row2, goal2⟩ := r1
          obtain ⟨p, M, ms, g, rfl, _, ep, eM, hT, hg⟩ := h0
          obtain ⟨p2, M2, ms2, g2, rfl, _, ep2, eM2, hT2, hg2⟩ := h1
          have hsm1 := hsm _ List.mem_cons_self
          have hsm2 := hsm _ (List.mem_cons_of_mem _ List.mem_cons_self)
          have lsm : row.length ≤ 40000 := hsm1.1
          have lsm2 : row2.length ≤ 40000 := hsm2.1
          have lT : ms.length = row.length := hT.length
          have lT2 : ms2.length = row2.length := hT2.length
          have hT : Tys H ms row := hT
          have hT2 : Tys H ms2 row2 := hT2
          have hg : TyAt H g goal := hg
          have hg2 : TyAt H g2 goal2 := hg2
          cases hd with
          | @t pk xs _ ek hk =>
            cases hk with
            | cons k0 hk => cases hk with
              | cons k1 hk =>
                cases k0
                cases k1
                refine ⟨_, rfl, pk, _, _, _, rfl, rfl, SqT.of ek, atI_nat (j := 1) rfl, ?_⟩
                refine ⟨_, rfl, L, _, rfl, SqL.of eL, rfl, _, _, rfl, ⟨p, _, rfl, SqT.of ep, rfl, _, _, rfl, _, _, rfl, rfl, _, _, rfl, ⟨p2, _, rfl, SqT.of ep2, rfl, _, _, rfl, _, _, rfl, rfl, rfl, ?_⟩⟩⟩
                refine ⟨_, rfl, _, rfl, M2, ms2, rfl, .inl (SqL.of eM2), _, _, rfl, rfl, _, rfl, ?_⟩
                by_cases c : row2.length ≤ n
                · rw [decide_eq_true (show (n : Int) ≥ (ms2.length : Int) by rw [lT2]; exact Int.ofNat_le.mpr c)]
                  refine iteT (k _ H (Same.refl H) ?_)
                  have et : (D.t [.s "cut", .i n, d1, d2]).tl = none := by
                    have e9 : row2[n]? = none := List.getElem?_eq_none c
                    simp [D.tl, tellOf, tlAll, e0, e1, both, placed, usedAt, e9]
                  rw [et]
                  rfl
                · rw [decide_eq_false (show ¬ (n : Int) ≥ (ms2.length : Int) by rw [lT2]; intro z; exact c (Int.ofNat_le.mp z))]
                  have ek2 : row2[n]? = some (row2[n]'(by omega)) := List.getElem?_eq_getElem (by omega)
                  generalize row2[n]'(by omega) = kd at ek2
                  obtain ⟨vk, evk, tvk⟩ := hT2.get ek2
                  have dk := (DAt.py (K := K) tvk.d).1
                  have dg := (DAt.py (K := K) hg.d).1
                  refine iteF ⟨_, rfl, _, rfl, M2, _, _, vk, rfl, rfl, SqL.of eM2, atI_nat evk, _, rfl, kd.d.py, goal.d.py, dk, dg, DAt.shaped (K := K) tvk.d (by have := hsm2.2.1 kd (List.mem_of_getElem? ek2); omega), DAt.shaped (K := K) hg.d (by have q : goal.d.dep ≤ 60 := hsm1.2.2; omega), _, rfl, ?_⟩
                  rw [eqv_ty]
                  by_cases ce : kd = goal
                  · rw [decide_eq_true ce]
                    refine iteF ⟨_, rfl, _, rfl, _, rfl, M2, ms2, rfl, SqL.of eM2, fun A1 nA => ?_⟩
                    rw [cutV_take]
                    have s1 := same_upd (o := .lst (ms2.take n)) nA
                    refine ⟨_, rfl, A1, M, _, _, rfl, rfl, upd_same, s1 _ _ eM, by rw [List.length_take, sizeLine_eq]; omega, fun E1 nE => ?_⟩
                    have s2 := same_upd (o := .lst (ms2.take n ++ ms)) nE
                    have s14 := s1.trans s2
                    refine ⟨_, rfl, _, rfl, _, _, rfl, rfl, _, rfl, M2, ms2, rfl, SqL.of (s14 _ _ eM2), fun G1 nG => ?_⟩
                    have ec : cutV ms2 (some ((n : Int) + 1)) none = ms2.drop (n + 1) := cutV_from (b := n + 1)
                    rw [ec]
                    have s6 := same_upd (o := .lst (ms2.drop (n + 1))) nG
                    refine ⟨E1, G1, _, _, rfl, rfl, s6 _ _ upd_same, upd_same, by simp only [List.length_append, List.length_take, List.length_drop]; rw [sizeLine_eq]; omega, fun N nN => ?_⟩
                    have s7 := same_upd (o := .lst (ms2.take n ++ ms ++ ms2.drop (n + 1))) nN
                    refine ⟨_, rfl, by show 2 ≤ sizeLine; rw [sizeLine_eq]; omega, fun q2 n2 => ?_⟩
                    have s8 := same_upd (o := .tup [.ref N, g2]) n2
                    have s16 := s14.trans s6
                    have s18 := (s16.trans s7).trans s8
                    refine k _ _ s18 ?_
                    have et : usedAt "cut" n (row, goal) (row2, goal2) = some (row2.take n ++ row ++ row2.drop (n + 1), goal2) := by
                      simp [usedAt, ek2, ce]
                    rw [tl_of (.us (by decide) e0 e1 et)]
                    exact ⟨q2, N, _, g2, rfl, s16.free nN, upd_same, s8 _ _ upd_same, (((hT2.take n).mono (TK.of_same s18)).append (hT.mono (TK.of_same s18))).append ((hT2.drop (n + 1)).mono (TK.of_same s18)), hg2.mono (TK.of_same s18)⟩
                  · rw [decide_eq_false ce]
                    refine iteT (k _ H (Same.refl H) ?_)
                    have et : (D.t [.s "cut", .i n, d1, d2]).tl = none := by
                      simp [D.tl, tellOf, tlAll, e0, e1, both, placed, usedAt, ek2, ce]
                    rw [et]
                    rfl
theorem ok_tellThenUsed {f : Addr} {fd : FuncData} (T : Top K mg "_tell_then_used" sTellThenUsed pTellThenUsed f fd) (B : Blt mg) : FnOk P w K mg base CX0 1 f fd pTellThenUsed (spTeller "then used") := by
  refine T.F.ok scTellThenUsed (fun vs H Q E h => ?_) (fun cdv A outer s H vs Q E hr h => ?_)
  · obtain ⟨_, _, _, _, _, rfl, _⟩ := h
    rfl
  · obtain ⟨x, r, L, us, rs, rfl, hd, f, eL, hp, hr2, hsm, k⟩ := h
    refine ⟨_, (pss_cons (ps_set (i := 2) scTellThenUsed.nd rfl (Or.inl rfl) (pe_ix ix_tup (pv 0) pe_int (fun _ _ => rfl)))
      (pss_cons (ps_asg (pe_ix ix_list (pv 1) pe_int (fun _ _ => rfl)) (pg_tup (by rfl) (pgs_cons (pg_name (i := 3) scTellThenUsed.nd rfl (Or.inl rfl)) (pgs_cons (pg_name (i := 4) scTellThenUsed.nd rfl (Or.inl rfl)) pgs_nil))))
      (pss_cons (ps_if (pt_cmpR op_ge (pe_op op_add (pv 2) pe_int) (pe_callB call_len_seq (by rfl) B.len PySem.boot_len (pa_cons (pv 3) pa_nil)) (nomark _)) (pss_one (ps_ret pe_non)) pss_nil)
      (pss_one (ps_ret (pe_tup (pa_cons (pe_op op_cat (pe_op op_cat (pe_slice sl_list (pv 3) po_none (po_some (pv 2))) (pe_lst (pa_cons (pe_tup (pa_cons pe_str (pa_cons (pe_ix ix_list (pv 3) (pv 2) (fun _ _ => rfl)) (pa_cons (pe_ix ix_list (pv 3) (pe_op op_add (pv 2) pe_int) (fun _ _ => rfl)) pa_nil)))) pa_nil))) (pe_slice sl_list (pv 3) (po_some (pe_op op_add (pv 2) pe_int)) po_none)) (pa_cons (pv 4) pa_nil)))))))), ?_⟩
    obtain ⟨n, d1, rfl⟩ := fm_tu f
    have epp : (D.t [.s "then used", .i n, d1]).parts = [d1] := by simp [D.parts]
    rw [epp] at hr2
    cases hp with
    | nil => exact absurd (congrArg List.length hr2) (by simp)
    | @cons v0 r0 us' rs' h0 hp' =>
      have e0 : d1.tl = some r0 := (List.cons.inj hr2).1
      obtain ⟨row, goal⟩ := r0
      obtain ⟨p, M, ms, g, rfl, _, ep, eM, hT, hg⟩ := h0
      have lsm : row.length ≤ 40000 := (hsm _ List.mem_cons_self).1
      have lT : ms.length = row.length := hT.length
      have hT : Tys H ms row := hT
      have hg : TyAt H g goal := hg
      cases hd with
      | @t pk xs _ ek hk =>
        cases hk with
        | cons k0 hk => cases hk with
          | cons k1 hk =>
            cases k0
            cases k1
            refine ⟨_, rfl, pk, _, _, _, rfl, rfl, SqT.of ek, atI_nat (j := 1) rfl, ?_⟩
            refine ⟨_, rfl, L, _, _, _, rfl, rfl, SqL.of eL, atI_nat (j := 0) rfl, p, _, rfl, SqT.of ep, rfl, _, _, rfl, _, _, rfl, rfl, ?_⟩
            refine ⟨_, rfl, _, _, rfl, rfl, _, rfl, M, ms, rfl, .inl (SqL.of eM), _, _, rfl, rfl, _, rfl, ?_⟩
            by_cases c : row.length ≤ n + 1
            · rw [decide_eq_true (show (n : Int) + 1 ≥ (ms.length : Int) by rw [lT]; exact Int.ofNat_le.mpr c)]
              refine iteT (k _ H (Same.refl H) ?_)
              have et : (D.t [.s "then used", .i n, d1]).tl = none := by
                have e9 : row[n + 1]? = none := List.getElem?_eq_none c
                have e8 : thenU n (row, goal) = none := by
                  unfold thenU
                  rw [if_pos (by omega)]
                  show (match row[n]?, row[n + 1]? with | some a, some b => _ | _, _ => none) = none
                  rw [e9]
                  cases row[n]? <;> rfl
                simp [D.tl, tellOf, tlAll, e0, e8]
              rw [et]
              rfl
            · rw [decide_eq_false (show ¬ (n : Int) + 1 ≥ (ms.length : Int) by rw [lT]; intro z; exact c (Int.ofNat_le.mp z))]
              have ek1 : row[n]? = some (row[n]'(by omega)) := List.getElem?_eq_getElem (by omega)
              have ek2 : row[n + 1]? = some (row[n + 1]'(by omega)) := List.getElem?_eq_getElem (by omega)
              generalize row[n]'(by omega) = ka at ek1
              generalize row[n + 1]'(by omega) = kb at ek2
              obtain ⟨va, eva, tva⟩ := hT.get ek1
              obtain ⟨vb, evb, tvb⟩ := hT.get ek2
              refine iteF ⟨_, rfl, _, rfl, _, rfl, M, ms, rfl, SqL.of eM, fun A1 nA => ?_⟩
              rw [cutV_take]
              have s1 := same_upd (o := .lst (ms.take n)) nA
              have eix : ((n : Int) + 1) = ((n + 1 : Nat) : Int) := by omega
              refine ⟨_, rfl, _, rfl, M, _, _, va, rfl, rfl, SqL.of (s1 _ _ eM), atI_nat eva, _, rfl, _, rfl, _, _, rfl, rfl, M, _, _, vb, rfl, rfl, SqL.of (s1 _ _ eM), by rw [eix]; exact atI_nat evb, by show 3 ≤ sizeLine; rw [sizeLine_eq]; omega, fun B1 nB => ⟨by show 1 ≤ sizeLine; rw [sizeLine_eq]; omega, fun C1 nC => ?_⟩⟩
              have s2 := same_upd (o := .tup [.str "then", va, vb]) nB
              have s3 := same_upd (o := .lst [.ref B1]) nC
              refine ⟨A1, C1, _, _, rfl, rfl, (s2.trans s3) _ _ upd_same, upd_same, by rw [List.length_take, sizeLine_eq]; simp only [List.length_singleton]; omega, fun F1 nF => ?_⟩
              have s5 := same_upd (o := .lst (ms.take n ++ [.ref B1])) nF
              have s15 := ((s1.trans s2).trans s3).trans s5
              refine ⟨_, rfl, _, rfl, _, _, rfl, rfl, _, rfl, M, ms, rfl, SqL.of (s15 _ _ eM), fun G1 nG => ?_⟩
              have ec : cutV ms (some ((n : Int) + 2)) none = ms.drop (n + 2) := cutV_from (b := n + 2)
              rw [ec]
              have s6 := same_upd (o := .lst (ms.drop (n + 2))) nG
              refine ⟨F1, G1, _, _, rfl, rfl, s6 _ _ upd_same, upd_same, by simp only [List.length_append, List.length_take, List.length_drop, List.length_singleton]; rw [sizeLine_eq]; omega, fun N nN => ?_⟩
              have s7 := same_upd (o := .lst (ms.take n ++ [.ref B1] ++ ms.drop (n + 2))) nN
              refine ⟨_, rfl, by show 2 ≤ sizeLine; rw [sizeLine_eq]; omega, fun q2 n2 => ?_⟩
              have s8 := same_upd (o := .tup [.ref N, g]) n2
              have s16 := s15.trans s6
              have s18 := (s16.trans s7).trans s8
              refine k _ _ s18 ?_
              have et : thenU n (row, goal) = some (row.take n ++ [.n .th ka kb] ++ row.drop (n + 2), goal) := by
                unfold thenU
                rw [if_pos (by omega)]
                show (match row[n]?, row[n + 1]? with | some a, some b => _ | _, _ => none) = _
                rw [ek1, ek2]
                rfl
              rw [tl_of (.tu e0 et)]
              have tB := ((((s3.trans s5).trans s6).trans s7).trans s8) _ _ (upd_same (a := B1) (o := .tup [.str "then", va, vb]))
              exact ⟨q2, N, _, g, rfl, s16.free nN, upd_same, s8 _ _ upd_same, (((hT.take n).mono (TK.of_same s18)).append (.cons (.n tB (tva.mono (TK.of_same s18)) (tvb.mono (TK.of_same s18))) .nil)).append ((hT.drop (n + 2)).mono (TK.of_same s18)), hg.mono (TK.of_same s18)⟩
end
end U6

namespace U6
open PySem PySem.Spec PyProof.Rows L2 LamX KT
open PySem.W (Frag)
/-- a telling as data -/
def tpy : Option Told → PyData
  | none => .none
  | some r => .tuple [.list (r.1.map fun t => t.d.py), r.2.d.py]
theorem depAll_py (l : List PyData) (n : Nat) (h : ∀ x ∈ l, x.depth ≤ n) : PyData.depthAll l ≤ n := by
  induction l with
  | nil => simp [PyData.depthAll]
  | cons a r ih =>
    simp only [PyData.depthAll]
    have := h a List.mem_cons_self
    have := ih fun x hx => h x (List.mem_cons_of_mem _ hx)
    omega
theorem canAll_py (l : List PyData) (h : ∀ x ∈ l, x.canLay0 = true) : PyData.canLayAll0 l = true := by
  induction l with
  | nil => simp [PyData.canLayAll0]
  | cons a r ih =>
    simp only [PyData.canLayAll0]
    rw [h a List.mem_cons_self, ih fun x hx => h x (List.mem_cons_of_mem _ hx)]
    rfl
theorem tys_dp {K : Frag} {H : Hp} {us : List V} {ts : List Ty} (h : Tys H us ts) : DpAll K H us (ts.map fun t => t.d.py) ∧ ∀ x ∈ ts.map (fun t => t.d.py), x.canLay0 = true := by
  induction h with
  | nil => exact ⟨.nil, fun x hx => by cases hx⟩
  | cons h _ ih =>
    obtain ⟨h1, h2, _⟩ := DAt.py (K := K) h.d
    refine ⟨.cons h1 ih.1, fun x hx => ?_⟩
    rcases List.mem_cons.mp hx with e | hx
    · rw [e]; exact h2
    · exact ih.2 x hx
theorem dep_py (t : Ty) : t.d.py.depth = t.d.dep := by
  induction t with
  | w z => simp [Ty.d, D.py, PyData.depth, D.dep]
  | n g a b i j => simp [Ty.d, D.py, pyAll, PyData.depth, PyData.depthAll, D.dep, depAll, i, j]
theorem Res.dp {K : Frag} {ok : Addr → Prop} {H : Hp} {v : V} {o : Option Told} (h : Res ok H v o) (hs : ∀ r, o = some r → Small r) : Dp K H v (tpy o) ∧ (tpy o).canLay0 = true ∧ (tpy o).depth ≤ 62 := by
  cases o with
  | none =>
    obtain rfl : v = .non := h
    exact ⟨.non, by simp [tpy, PyData.canLay0], by simp [tpy, PyData.depth]⟩
  | some r =>
    obtain ⟨p, L, us, g, rfl, _, ep, eL, hT, hg⟩ := h
    obtain ⟨s1, s2, s3⟩ := hs r rfl
    obtain ⟨a1, a2⟩ := tys_dp (K := K) hT
    obtain ⟨b1, b2, _⟩ := DAt.py (K := K) hg.d
    refine ⟨.tup (SqT.of ep) (.cons (.lst (SqL.of eL) a1) (.cons b1 .nil)), ?_, ?_⟩
    · simp only [tpy, PyData.canLay0, PyData.canLayAll0, canAll_py _ a2, b2, Bool.and_self]
    · have q := depAll_py (r.1.map fun t => t.d.py) 60 fun x hx => by
        obtain ⟨t, ht, rfl⟩ := List.mem_map.mp hx
        rw [dep_py]
        exact s2 t ht
      have q2 : r.2.d.py.depth ≤ 60 := by rw [dep_py]; exact s3
      simp only [tpy, PyData.depth, PyData.depthAll]
      omega
theorem ress_dp {K : Frag} {ok : Addr → Prop} {H : Hp} {us : List V} {os : List (Option Told)} (h : Paired (Res ok H) us os) (hs : ∀ o ∈ os, ∀ r, o = some r → Small r) : DpAll K H us (os.map tpy) ∧ (∀ x ∈ os.map tpy, x.canLay0 = true) ∧ ∀ x ∈ os.map tpy, x.depth ≤ 62 := by
  induction h with
  | nil => exact ⟨.nil, (fun x hx => by cases hx), (fun x hx => by cases hx)⟩
  | cons h _ ih =>
    obtain ⟨a1, a2, a3⟩ := Res.dp (K := K) h (hs _ List.mem_cons_self)
    obtain ⟨b1, b2, b3⟩ := ih fun o ho => hs o (List.mem_cons_of_mem _ ho)
    refine ⟨.cons a1 b1, fun x hx => ?_, fun x hx => ?_⟩
    · rcases List.mem_cons.mp hx with e | hx
      · rw [e]; exact a2
      · exact b2 x hx
    · rcases List.mem_cons.mp hx with e | hx
      · rw [e]; exact a3
      · exact b3 x hx
theorem none_in (os : List (Option Told)) : ((os.map tpy).any fun z => PyData.eqv z .none) = os.any Option.isNone := by
  rw [List.any_map]
  congr 1
  funext o
  cases o with
  | none => simp [tpy, PyData.eqv]
  | some r => simp [tpy, PyData.eqv]
/-- the parts of what tells something tell something -/
theorem tl_parts {u : D} {r : Told} (h : u.tl = some r) : ∀ p ∈ u.parts, p.tl.isSome = true := by
  cases tl_inv h with
  | is hk => intro p hp; simp [D.parts] at hp
  | om h1 h2 => intro p hp; simp [D.parts] at hp; rw [hp, h1]; rfl
  | um h1 h2 => intro p hp; simp [D.parts] at hp; rw [hp, h1]; rfl
  | tm h1 h2 =>
    intro p hp
    simp [D.parts] at hp
    rcases hp with e | e
    · rw [e, h1]; rfl
    · rw [e, h2]; rfl
  | tu h1 h2 => intro p hp; simp [D.parts] at hp; rw [hp, h1]; rfl
  | us c h1 h2 h3 =>
    intro p hp
    simp [D.parts] at hp
    rcases hp with e | e
    · rw [e, h1]; rfl
    · rw [e, h2]; rfl
theorem all_some {ok : Addr → Prop} {H : Hp} {us : List V} {os : List (Option Told)} (h : Paired (Res ok H) us os) (ha : os.any Option.isNone = false) : ∃ rs : List Told, os = rs.map some ∧ Paired (fun v r => Res ok H v (some r)) us rs := by
  induction h with
  | nil => exact ⟨[], rfl, .nil⟩
  | @cons v o us os h _ ih =>
    rw [List.any_cons, Bool.or_eq_false_iff] at ha
    obtain ⟨rs, e, hp⟩ := ih ha.2
    cases o with
    | none => cases ha.1
    | some r => exact ⟨r :: rs, by rw [e]; rfl, .cons h hp⟩
/-- the tellers by name -/
structure Gt5 (K : Frag) (w : World) (mg : Str → Option Value) (f1 f2 f3 f4 f5 f6 f7 f8 : Addr) : Prop where
  ex : ∃ dt, mg "_TELLERS" = some (.ref dt) ∧ KDct K w dt "is" (.ref f1) ∧ KDct K w dt "over made" (.ref f2) ∧ KDct K w dt "under made" (.ref f3) ∧ KDct K w dt "then made" (.ref f4) ∧ KDct K w dt "over used" (.ref f5) ∧ KDct K w dt "under used" (.ref f6) ∧ KDct K w dt "then used" (.ref f7) ∧ KDct K w dt "cut" (.ref f8)
section
variable {P : Program} {w : World} {K : Frag} {mg : Str → Option Value} {base : Heap}
theorem ok_tell {f f1 f2 f3 f4 f5 f6 f7 f8 : Addr} {fd d1 d2 d3 d4 d5 d6 d7 d8 : FuncData} (T : Top K mg "_tell" sTell pTell f fd) (G : Gt5 K w mg f1 f2 f3 f4 f5 f6 f7 f8)
    (T1 : Top K mg "_tell_is" sTellIs pTellIs f1 d1) (T2 : Top K mg "_tell_over_made" sTellOverMade pTellOverMade f2 d2) (T3 : Top K mg "_tell_under_made" sTellUnderMade pTellUnderMade f3 d3) (T4 : Top K mg "_tell_then_made" sTellThenMade pTellThenMade f4 d4)
    (T5 : Top K mg "_tell_over_used" sTellOverUsed pTellOverUsed f5 d5) (T6 : Top K mg "_tell_under_used" sTellUnderUsed pTellUnderUsed f6 d6) (T7 : Top K mg "_tell_then_used" sTellThenUsed pTellThenUsed f7 d7) (T8 : Top K mg "_tell_cut" sTellCut pTellCut f8 d8) (B : Blt mg) :
    FnOk P w K mg base CX0 2 f fd pTell spNodeK := by
  obtain ⟨dt, gt, k1, k2, k3, k4, k5, k6, k7, k8⟩ := G.ex
  refine T.F.ok scTell (fun vs H Q E h => ?_) (fun cdv A outer s H vs Q E hr h => ?_)
  · obtain ⟨_, _, _, _, rfl, _⟩ := h
    rfl
  · obtain ⟨x, u, L, us, rfl, hd, hdp, f0, eL, hp, hsm, k⟩ := h
    obtain ⟨a1, a2, a3⟩ := ress_dp (K := K) hp hsm
    have key : ∀ (nm : Str) (fx : Addr) (fdx : FuncData) (GX : FnOk P w K mg base CX0 1 fx fdx ["knot", "told"] (spTeller nm)) (hk : PySem.W.keepIn K (.ref fx) = true) (bx : L2.Binds K fdx ["knot", "told"] []) (kd : KDct K w dt nm (.ref fx)) (r : List D), u = .t (.s nm :: r) →
        ∃ t, PSs (cxOf CX0 P w K mg base nTell "_tell" (defScope sTell) f cdv A outer s H E).nox (defBody sTell) t ∧ t { nx := fun _ H' => Q .non H', rt := Q } (start nTell [x, .ref L]) H := by
      intro nm fx fdx GX hk bx kd r hu
      subst hu
      refine ⟨_, (pss_cons (ps_if (pt_cmpR (op_inD (hu65 hr)) pe_non (pv 1) (by rfl)) (pss_one (ps_ret pe_non)) pss_nil)
      (pss_cons (ps_set (i := 2) scTell.nd rfl (Or.inl rfl) (pe_ix ix_kdict (pe_glob (v := .ref dt) rfl gt rfl) (pe_ix ix_tup (pv 0) pe_int (fun _ _ => rfl)) (fun _ _ => rfl)))
      (pss_one (ps_ret (pe_callL (i := 2) (f := fx) GX hr rfl (.inl rfl) hk bx .nil pass0 (pa_cons (pv 0) (pa_cons (pv 1) pa_nil))))))), ?_⟩
      refine ⟨_, rfl, .none, _, .non, .lst (SqL.of eL) a1, by decide +kernel, ?_, _, rfl, ?_⟩
      · unfold SeqAt.shaped
        have q := depAll_py _ 62 a3
        simp only [PyData.canLay0, PyData.depth, canAll_py _ a2, Bool.true_and]
        exact decide_eq_true (by omega)
      · rw [none_in]
        cases ha : (List.map D.tl (D.t (.s nm :: r)).parts).any Option.isNone with
        | true =>
          refine iteT (k _ H (Same.refl H) ?_)
          have et : (D.t (.s nm :: r)).tl = none := by
            cases ee : (D.t (.s nm :: r)).tl with
            | none => rfl
            | some r0 =>
              obtain ⟨o, ho, hn⟩ := List.any_eq_true.mp ha
              obtain ⟨p, hp', rfl⟩ := List.mem_map.mp ho
              have := tl_parts ee p hp'
              cases hq : p.tl with
              | none => rw [hq] at this; cases this
              | some _ => rw [hq] at hn; cases hn
          rw [et]
          rfl
        | false =>
          obtain ⟨rs, er, hp'⟩ := all_some hp ha
          cases hd with
          | @t pk xs _ ek hk2 =>
            cases hk2 with
            | cons h0 hk2 =>
              cases h0
              refine iteF ⟨_, rfl, pk, _, _, _, rfl, rfl, SqT.of ek, atI_nat (j := 0) rfl, dt, nm, .ref fx, rfl, rfl, kd, ?_⟩
              refine ⟨rfl, _, rfl, _, rfl, .ref pk, r, L, us, rs, rfl, .t ek (.cons (.s (by assumption)) hk2), f0, eL, hp', er, fun r' hr' => hsm (some r') (by rw [er]; exact List.mem_map.mpr ⟨r', hr', rfl⟩) r' rfl, k⟩
    cases f0 with
    | is h => exact key _ f1 d1 (ok_tellIs T1) T1.F.kp T1.b k1 _ rfl
    | om => exact key _ f2 d2 (ok_tellOm T2 B) T2.F.kp T2.b k2 _ rfl
    | um => exact key _ f3 d3 (ok_tellUm T3 B) T3.F.kp T3.b k3 _ rfl
    | tm => exact key _ f4 d4 (ok_tellTm T4 B) T4.F.kp T4.b k4 _ rfl
    | tu h => exact key _ f7 d7 (ok_tellThenUsed T7 B) T7.F.kp T7.b k7 _ rfl
    | ou h => exact key _ f5 d5 (ok_tellOverUsed T5 B) T5.F.kp T5.b k5 _ rfl
    | uu h => exact key _ f6 d6 (ok_tellUnderUsed T6 B) T6.F.kp T6.b k6 _ rfl
    | ct h => exact key _ f8 d8 (ok_tellCut T8 B) T8.F.kp T8.b k8 _ rfl
end
end U6

namespace U6
open PySem PySem.Spec PyProof.Rows L2 NdefX LamX KT
open PySem.W (Frag)
/-! ### walks from inside, of any trees of data, by any callee -/
def ndAll (nd : D → List D) : List D → List D
  | [] => []
  | d :: r => nd d ++ ndAll nd r
theorem ndAll_app (nd : D → List D) (l r : List D) : ndAll nd (l ++ r) = ndAll nd l ++ ndAll nd r := by
  induction l with
  | nil => rfl
  | cons d l ih => simp only [List.cons_append, ndAll, ih, List.append_assoc]
/-- trees: parts, nodes, which data are such -/
structure Tree (pt nd : D → List D) (Dm : D → Prop) : Prop where
  nd : ∀ u, Dm u → nd u = u :: ndAll nd (pt u).reverse
  sz : ∀ u, Dm u → sizeAll (pt u) < u.size ∧ (pt u).length ≤ 2
  dm : ∀ u, Dm u → ∀ p ∈ pt u, Dm p
inductive RunG (pt : D → List D) : List D → List D → List D → Prop
  | nil {S : List D} : RunG pt S [] S
  | cons {S R S' : List D} {u : D} : RunG pt (S ++ [u]) R S' → RunG pt (S ++ pt u) (u :: R) S'
theorem RunG.inv {pt : D → List D} {S R S' : List D} {u : D} (h : RunG pt S (u :: R) S') : ∃ S0, S = S0 ++ pt u ∧ RunG pt (S0 ++ [u]) R S' := by
  cases h with
  | cons h => exact ⟨_, rfl, h⟩
theorem RunG.end_ {pt : D → List D} {S S' : List D} (h : RunG pt S [] S') : S = S' := by
  cases h
  rfl
theorem Tree.len {pt nd : D → List D} {Dm : D → Prop} (T : Tree pt nd Dm) : ∀ (n : Nat) (u : D), u.size ≤ n → Dm u → (nd u).length ≤ u.size ∧ ∀ x ∈ nd u, Dm x := by
  intro n
  induction n with
  | zero => intro u h; have := u.size_pos; omega
  | succ n ih =>
    intro u h ha
    obtain ⟨ps, _⟩ := T.sz u ha
    have hp := T.dm u ha
    rw [T.nd u ha]
    have key : ∀ l : List D, sizeAll l ≤ n → (∀ p ∈ l, Dm p) → (ndAll nd l).length ≤ sizeAll l ∧ ∀ x ∈ ndAll nd l, Dm x := by
      intro l
      induction l with
      | nil => intro _ _; exact ⟨Nat.le_refl _, fun x hx => by cases hx⟩
      | cons d r ihr =>
        intro hl hk
        simp only [sizeAll] at hl
        obtain ⟨a1, a2⟩ := ih d (by omega) (hk d List.mem_cons_self)
        obtain ⟨b1, b2⟩ := ihr (by omega) fun p hp => hk p (List.mem_cons_of_mem _ hp)
        refine ⟨by simp only [ndAll, List.length_append, sizeAll]; omega, fun x hx => ?_⟩
        rcases List.mem_append.mp hx with hx | hx
        · exact a2 x hx
        · exact b2 x hx
    obtain ⟨a1, a2⟩ := key (pt u).reverse (by rw [sizeAll_rev]; omega) fun p hp' => hp p (List.mem_reverse.mp hp')
    rw [sizeAll_rev] at a1
    refine ⟨by rw [List.length_cons]; omega, fun x hx => ?_⟩
    rcases List.mem_cons.mp hx with e | hx
    · rw [e]; exact ha
    · exact a2 x hx
theorem Tree.run {pt nd : D → List D} {Dm : D → Prop} (T : Tree pt nd Dm) : ∀ (n : Nat) (u : D), u.size ≤ n → Dm u → ∀ (S R S' : List D), RunG pt (S ++ [u]) R S' → RunG pt S ((nd u).reverse ++ R) S' := by
  intro n
  induction n with
  | zero => intro u h; have := u.size_pos; omega
  | succ n ih =>
    intro u h ha S R S' hr
    obtain ⟨ps, _⟩ := T.sz u ha
    have hp := T.dm u ha
    have key : ∀ (l : List D), sizeAll l ≤ n → (∀ p ∈ l, Dm p) → ∀ (S R S' : List D), RunG pt (S ++ l) R S' → RunG pt S ((ndAll nd l.reverse).reverse ++ R) S' := by
      intro l
      induction l with
      | nil => intro _ _ S R S' q; simpa [ndAll] using q
      | cons d r ihr =>
        intro hl hk S R S' q
        simp only [sizeAll] at hl
        have e : (ndAll nd (d :: r).reverse).reverse ++ R = (nd d).reverse ++ ((ndAll nd r.reverse).reverse ++ R) := by
          rw [List.reverse_cons, ndAll_app]
          simp [ndAll]
        rw [e]
        refine ih d (by omega) (hk d List.mem_cons_self) _ _ _ (ihr (by omega) (fun p hp => hk p (List.mem_cons_of_mem _ hp)) _ _ _ ?_)
        rw [List.append_assoc]
        exact q
    have e : (nd u).reverse ++ R = (ndAll nd (pt u).reverse).reverse ++ (u :: R) := by rw [T.nd u ha]; simp
    rw [e]
    exact key (pt u) (by omega) hp _ _ _ (.cons hr)
/-- all but tables stays, nothing goes -/
def ExtS (H H' : Hp) : Prop := ExtN H H' ∧ ∀ b, H' b = none → H b = none
theorem ExtS.refl (H : Hp) : ExtS H H := ⟨ExtN.refl H, fun _ h => h⟩
theorem ExtS.trans {H H1 H2 : Hp} (h : ExtS H H1) (h' : ExtS H1 H2) : ExtS H H2 := ⟨h.1.trans h'.1, fun b e => h.2 b (h'.2 b e)⟩
theorem ExtS.of_same {H H' : Hp} (s : Same H H') : ExtS H H' := ⟨fun b o e _ => s b o e, fun b e => s.free e⟩
theorem ExtS.lst {H H' : Hp} (h : ExtS H H') {b : Addr} {xs : List V} (e : H b = some (.lst xs)) : H' b = some (.lst xs) := h.1 b _ e fun ps z => by cases z
theorem ExtS.tk {H H' : Hp} (h : ExtS H H') : TK H H' := fun p xs e => h.1 p _ e fun ps z => by cases z
theorem ExtS.over {H H' : Hp} {W : Addr} {o : HO} (h : ExtS H H') (n : H W = none) : ExtS H (upd H' W o) := by
  refine ⟨fun b u e m => ?_, fun b e => ?_⟩
  · rw [upd_ne fun z => by rw [z, n] at e; cases e]
    exact h.1 b u e m
  · by_cases z : b = W
    · rw [z]; exact n
    · rw [upd_ne z] at e
      exact h.2 b e
/-- what comes of a node: a relation that bears growth -/
structure Rel (ρ : Type) where
  R : (Addr → Prop) → Hp → V → ρ → Prop
  mono : ∀ {ok ok' : Addr → Prop} {H H' : Hp} {v : V} {r : ρ}, R ok H v r → (∀ a, ok a → ok' a) → (∀ a xs, ok a → H a = some (.lst xs) → H' a = some (.lst xs)) → TK H H' → R ok' H' v r
/-- data, as a relation -/
def relD : Rel D := ⟨fun _ H v d => DAt H v d, fun h _ _ t => h.mono t⟩
section
variable {P : Program} {w : World} {K : Frag} {mg : Str → Option Value} {base : Heap}
def spPartsG (pt : D → List D) (Dm : D → Prop) : Sp := fun vs H Q _ => ∃ v u, vs = [v] ∧ DAt H v u ∧ Dm u ∧ ∀ p us, H p = none → DsAt H us (pt u) → Q (.ref p) (upd H p (.tup us))
def spNodesG (nd : D → List D) (Dm : D → Prop) (fp : Addr) : Sp := fun vs H Q _ => ∃ v d, vs = [v, .ref fp] ∧ DAt H v d ∧ Dm d ∧ d.size ≤ 1000000 ∧
  ∀ (L : Addr) (us : List V) (H' : Hp), Same H H' → H L = none → H' L = some (.lst us) → DsAt H' us (nd d) → Q (.ref L) H'
theorem ok_nodesG {pt nd : D → List D} {Dm : D → Prop} (Tr : Tree pt nd Dm) {f fp : Addr} {fd fdp : FuncData} {xp : Str} {sp_ : Stmt} {pp : List Str} (T : Top K mg "nodes_in" sNodesIn pNodesIn f fd) (TP : Top K mg xp sp_ pp fp fdp) (GP : FnOk P w K mg base CX0 2 fp fdp pp (spPartsG pt Dm)) : FnOk P w K mg base CX0 3 f fd pNodesIn (spNodesG nd Dm fp) := by
  refine T.F.ok scNodesIn (fun vs H Q E h => ?_) (fun cdv A outer s H vs Q E hr h => ?_)
  · obtain ⟨_, _, rfl, _⟩ := h
    rfl
  · obtain ⟨v, t, rfl, ht, hk, hz, k⟩ := h
    refine ⟨_, (pss_cons (ps_set (i := 2) scNodesIn.nd rfl (Or.inl rfl) (pe_lst (pa_cons (pv 0) pa_nil)))
      (pss_cons (ps_set (i := 3) scNodesIn.nd rfl (Or.inl rfl) (pe_lst pa_nil))
      (pss_cons (ps_while PassesOwn.never (pt_truth (pv 2) (by intro _; rfl))
        (pss_cons (ps_set (i := 4) scNodesIn.nd rfl (Or.inl rfl) (pe_bm0 PySem.F.plainAttrs_list PySem.F.slot_list_pop PySem.F.type_list_pop mt_pop (pv 2)))
      (pss_cons (ps_expr (pe_bm PySem.F.plainAttrs_list PySem.F.slot_list_append PySem.F.type_list_append mt_append (pv 3) (pa_cons (pv 4) pa_nil)))
      (pss_one (ps_expr (pe_bm PySem.F.plainAttrs_list PySem.F.slot_list_extend PySem.F.type_list_extend KT.mt_extT (pv 2) (pa_cons (pe_callL (i := 1) (f := fp) GP hr rfl (.inl rfl) TP.F.kp TP.b .nil pass0 (pa_cons (pv 4) pa_nil)) pa_nil)))))))
      (pss_one (ps_ret (pv 3)))))), ?_⟩
    refine ⟨v, rfl, by show 1 ≤ sizeLine; rw [sizeLine_eq]; omega, fun W hW => ⟨by show 0 ≤ sizeLine; exact Nat.zero_le _, fun L hL => ?_⟩⟩
    have nWL : W ≠ L := ne_of_none upd_same hL
    have nL : H L = none := by
      rw [upd_ne nWL.symm] at hL
      exact hL
    have sh : Same H (upd (upd H W (.lst [v])) L (.lst [])) := same_over (same_over (Same.refl H) hW) nL
    obtain ⟨hnl, _⟩ := Tr.len t.size t (Nat.le_refl _) hk
    refine ⟨fun m σ H' => ∃ (vs : List V) (ts : List D) (us : List V) (rs : List D) (v4 : Option V), σ = [some v, some (.ref fp), some (.ref W), some (.ref L), v4] ∧ H' W = some (.lst vs.reverse) ∧ H' L = some (.lst us) ∧ DsAt H' vs ts ∧ DsAt H' us rs ∧ rs ++ ndAll nd ts = nd t ∧ sizeAll ts = m ∧ m ≤ 1000000 ∧ (∀ u ∈ ts, Dm u) ∧ Same H H',
      ⟨t.size, [v], [t], [], [], none, rfl, by rw [upd_ne nWL, upd_same]; rfl, upd_same, .cons (ht.mono (TK.of_same sh)) .nil, .nil, by simp [ndAll], by simp [sizeAll], hz, fun u hu => by rw [List.mem_singleton.mp hu]; exact hk, sh⟩, ?_⟩
    rintro m σ H1 ⟨vs, ts, us, rs, v4, rfl, eW, eL, hT, hR, hn, rfl, hm, hks, hs⟩
    have hlen := congrArg List.length hn
    rw [List.length_append] at hlen
    have lr := hR.length
    refine ⟨_, rfl, _, .inl ⟨_, SqL.of eW, rfl⟩, ?_⟩
    cases hT with
    | nil =>
      refine iteF ⟨_, rfl, k L us H1 hs nL eL ?_⟩
      rw [← hn]
      simpa [ndAll] using hR
    | @cons y vs u ts h1 h2 =>
      have el : (y :: vs).reverse = vs.reverse ++ [y] := List.reverse_cons
      have c : (!(y :: vs).reverse.isEmpty) = true := by rw [el]; simp
      rw [c]
      have hm' : u.size + sizeAll ts ≤ 1000000 := hm
      have fu := hks u List.mem_cons_self
      have hup := Tr.dm u fu
      obtain ⟨ps, pl⟩ := Tr.sz u fu
      refine iteT ⟨fun σ' H' => ∃ m' < sizeAll (u :: ts), ∃ (vs : List V) (ts : List D) (us : List V) (rs : List D) (v4 : Option V), σ' = [some v, some (.ref fp), some (.ref W), some (.ref L), v4] ∧ H' W = some (.lst vs.reverse) ∧ H' L = some (.lst us) ∧ DsAt H' vs ts ∧ DsAt H' us rs ∧ rs ++ ndAll nd ts = nd t ∧ sizeAll ts = m' ∧ m' ≤ 1000000 ∧ (∀ u ∈ ts, Dm u) ∧ Same H H', fun σ' H' q => q, ?_⟩
      refine ⟨_, rfl, .inl ⟨rfl, _, SqL.of eW⟩, W, _, y, rfl, rfl, eW, by rw [el]; simp, ?_⟩
      have ed : (y :: vs).reverse.dropLast = vs.reverse := by rw [el]; simp
      rw [ed]
      have tk : TK H1 (upd H1 W (.lst vs.reverse)) := TK.upd_lst eW
      have eL2 : upd H1 W (.lst vs.reverse) L = some (.lst us) := by rw [upd_ne nWL.symm]; exact eL
      refine ⟨_, rfl, .inl ⟨rfl, _, SqL.of eL2⟩, y, rfl, L, us, y, rfl, rfl, eL2, by rw [sizeLine_eq]; omega, ?_⟩
      have tk2 : TK H1 (upd (upd H1 W (.lst vs.reverse)) L (.lst (us ++ [y]))) := tk.trans (TK.upd_lst eL2)
      have eW2 : upd (upd H1 W (.lst vs.reverse)) L (.lst (us ++ [y])) W = some (.lst vs.reverse) := by rw [upd_ne nWL, upd_same]
      have hs2 : Same H (upd (upd H1 W (.lst vs.reverse)) L (.lst (us ++ [y]))) := same_over (same_over hs hW) nL
      refine ⟨_, rfl, .inl ⟨rfl, _, SqL.of eW2⟩, rfl, y, rfl, y, u, rfl, h1.mono tk2, fu, fun p zs hp hzs => ?_⟩
      have np : W ≠ p := ne_of_none eW2 hp
      have npL : L ≠ p := ne_of_none upd_same hp
      have lz := hzs.length
      have l2 := h2.length
      have l3 := len_size ts
      have up := u.size_pos
      refine ⟨W, p, _, zs, rfl, rfl, by rw [upd_ne np]; exact eW2, SqT.of upd_same, by rw [List.length_reverse, sizeLine_eq]; omega, ?_⟩
      have tz := (TK.upd_new (o := .tup zs) hp).trans (TK.upd_lst (ys := vs.reverse ++ zs) (by rw [upd_ne np]; exact eW2))
      have tk3 := tk2.trans tz
      have hs3 := same_over (o := .lst (vs.reverse ++ zs)) (hs2.trans (same_upd (o := .tup zs) hp)) hW
      have eL4 : upd (upd (upd (upd H1 W (.lst vs.reverse)) L (.lst (us ++ [y]))) p (.tup zs)) W (.lst (vs.reverse ++ zs)) L = some (.lst (us ++ [y])) := by rw [upd_ne nWL.symm, upd_ne npL, upd_same]
      refine ⟨sizeAll (pt u) + sizeAll ts, by show _ < u.size + sizeAll ts; omega, zs.reverse ++ vs, (pt u).reverse ++ ts, us ++ [y], rs ++ [u], _, rfl, by rw [upd_same]; simp, eL4, ((hzs.mono tz).rev).append (h2.mono tk3), (hR.mono tk3).append (.cons (h1.mono tk3) .nil), ?_, by rw [sizeAll_app, sizeAll_rev], by omega, ?_, hs3⟩
      · rw [← hn, ndAll_app]
        show _ = rs ++ (nd u ++ ndAll nd ts)
        rw [Tr.nd u fu]
        simp
      · intro z hz'
        rcases List.mem_append.mp hz' with hz' | hz'
        · exact hup z (List.mem_reverse.mp hz')
        · exact hks z (List.mem_cons_of_mem _ hz')
end
end U6

namespace U6
open PySem PySem.Spec PyProof.Rows L2 LamX KT
open PySem.W (Frag)
theorem tl_none {d : D} (h : d.allK = false) : d.tl = none := by
  cases e : d.tl with
  | none => rfl
  | some r =>
    rw [tl_allK d.size d r (Nat.le_refl _) e] at h
    cases h
theorem tl_small {d : D} {r : Told} (h : d.tl = some r) (hz : d.size ≤ 40000) (hd : d.dep ≤ 60) : Small r := (tl_bd d.size d r (Nat.le_refl _) h).small hz hd
theorem eqvAll_ty : ∀ l r : List Ty, PyData.eqvAll (l.map fun t => t.d.py) (r.map fun t => t.d.py) = decide (l = r)
  | [], [] => by simp [PyData.eqvAll]
  | [], _ :: _ => by simp [PyData.eqvAll]
  | _ :: _, [] => by simp [PyData.eqvAll]
  | a :: l, b :: r => by
    simp only [List.map_cons, PyData.eqvAll, eqv_ty, eqvAll_ty l r, List.cons.injEq]
    by_cases h1 : a = b <;> by_cases h2 : l = r <;> simp [h1, h2]
theorem eqv_tpy (o : Option Told) (r : Told) : PyData.eqv (tpy o) (tpy (some r)) = decide (o = some r) := by
  cases o with
  | none => simp [tpy, PyData.eqv]
  | some q =>
    obtain ⟨a, b⟩ := q
    obtain ⟨c, d⟩ := r
    simp only [tpy, PyData.eqv, PyData.eqvAll, eqvAll_ty, eqv_ty, Option.some.injEq, Prod.mk.injEq]
    by_cases h1 : a = c <;> by_cases h2 : b = d <;> simp [h1, h2]
section
variable {P : Program} {w : World} {K : Frag} {mg : Str → Option Value} {base : Heap}
def spFold (ft : Addr) : Sp := fun vs H Q _ => ∃ v d, vs = [v, .ref ft] ∧ DAt H v d ∧ d.allK = true ∧ d.size ≤ 40000 ∧ d.dep ≤ 60 ∧ ∀ v' H', Same H H' → Res (fun L => H L = none) H' v' d.tl → Q v' H'
theorem ok_fold {f fi fp ft : Addr} {fd fdi fdp : FuncData} (T : Top K mg "folded_knots" sFoldedKnots pFoldedKnots f fd) (TI : Top K mg "from_inside" sFromInside pFromInside fi fdi) (TP : Top K mg "parts_of_knot" sPartsOfKnot pPartsOfKnot fp fdp)
    (GI : FnOk P w K mg base CX0 4 fi fdi pFromInside (spFIK fp ft)) : FnOk P w K mg base CX0 5 f fd pFoldedKnots (spFold ft) := by
  refine T.F.ok scFoldedKnots (fun vs H Q E h => ?_) (fun cdv A outer s H vs Q E hr h => ?_)
  · obtain ⟨_, _, rfl, _⟩ := h
    rfl
  · obtain ⟨v, d, rfl, hd, ha, hz, hdp, k⟩ := h
    refine ⟨_, pss_one (ps_ret (pe_call GI hr rfl TI.g TI.F.kp TI.b .nil pass0 (pa_cons (pv 0) (pa_cons (pe_glob (v := .ref fp) rfl TP.g rfl) (pa_cons (pv 1) pa_nil))))), ?_⟩
    refine ⟨v, rfl, _, rfl, v, d, rfl, hd, ha, hz, hdp, fun u hu => ?_, k⟩
    obtain ⟨b1, b2⟩ := nodes_bd d.size d (Nat.le_refl _) ha u hu
    exact ⟨by omega, fun r hr => tl_small hr (by omega) (by omega)⟩
def spTelling : Sp := fun vs H Q _ => ∃ v d, vs = [v] ∧ DAt H v d ∧ d.size ≤ 40000 ∧ d.dep ≤ 60 ∧ ∀ v' H', Same H H' → Res (fun L => H L = none) H' v' d.tl → Q v' H'
theorem ok_telling {f ff fa ft : Addr} {fd fdf fda fdt : FuncData} (T : Top K mg "telling_of" sTellingOf pTellingOf f fd) (TF : Top K mg "folded_knots" sFoldedKnots pFoldedKnots ff fdf) (TA : Top K mg "_are_all_knots" sAreAllKnots pAreAllKnots fa fda) (TT : Top K mg "_tell" sTell pTell ft fdt)
    (GF : FnOk P w K mg base CX0 5 ff fdf pFoldedKnots (spFold ft)) (GA : FnOk P w K mg base CX0 4 fa fda pAreAllKnots spAllKnots) : FnOk P w K mg base CX0 6 f fd pTellingOf spTelling := by
  refine T.F.ok scTellingOf (fun vs H Q E h => ?_) (fun cdv A outer s H vs Q E hr h => ?_)
  · obtain ⟨_, _, rfl, _⟩ := h
    rfl
  · obtain ⟨v, d, rfl, hd, hz, hdp, k⟩ := h
    have hr4 : Room 4 _ := hr.mono (by decide)
    refine ⟨_, pss_one (ps_ret (pe_ifExp (pt_val (pe_call GA hr4 rfl TA.g TA.F.kp TA.b .nil pass0 (pa_cons (pv 0) pa_nil))) (pe_call GF hr rfl TF.g TF.F.kp TF.b .nil pass0 (pa_cons (pv 0) (pa_cons (pe_glob (v := .ref ft) rfl TT.g rfl) pa_nil))) pe_non)), ?_⟩
    refine ⟨v, rfl, v, d, rfl, hd, hdp, by omega, fun H1 s1 => ⟨_, rfl, ?_⟩⟩
    cases ha : d.allK with
    | true => exact iteT ⟨v, rfl, v, d, rfl, hd.mono (TK.of_same s1), ha, hz, hdp, fun v' H' s' r' => k v' H' (s1.trans s') (r'.same (fun M nM => s1.free nM) (Same.refl H'))⟩
    | false =>
      rw [tl_none ha] at k
      exact iteF (k .non H1 s1 rfl)
def spIsDer : Sp := fun vs H Q _ => ∃ v d, vs = [v] ∧ DAt H v d ∧ d.size ≤ 40000 ∧ d.dep ≤ 60 ∧ ∀ H', Same H H' → Q (.bl d.tl.isSome) H'
theorem Res.isnon {ok : Addr → Prop} {H : Hp} {v : V} {o : Option Told} (h : Res ok H v o) : decide (v = .non) = o.isNone := by
  cases o with
  | none =>
    obtain rfl : v = .non := h
    rfl
  | some r =>
    obtain ⟨p, L, us, g, rfl, _⟩ := h
    rfl
theorem ok_isDer {f fg : Addr} {fd fdg : FuncData} (T : Top K mg "is_derivation" sIsDerivation pIsDerivation f fd) (TG : Top K mg "telling_of" sTellingOf pTellingOf fg fdg) (GG : FnOk P w K mg base CX0 6 fg fdg pTellingOf spTelling) : FnOk P w K mg base CX0 7 f fd pIsDerivation spIsDer := by
  refine T.F.ok scIsDerivation (fun vs H Q E h => ?_) (fun cdv A outer s H vs Q E hr h => ?_)
  · obtain ⟨_, _, rfl, _⟩ := h
    rfl
  · obtain ⟨v, d, rfl, hd, hz, hdp, k⟩ := h
    refine ⟨_, pss_one (ps_ret (pe_cmpR op_notN (pe_call GG hr rfl TG.g TG.F.kp TG.b .nil pass0 (pa_cons (pv 0) pa_nil)) pe_non (nomark _))), ?_⟩
    refine ⟨v, rfl, v, d, rfl, hd, hz, hdp, fun v' H' s' r' => ⟨rfl, ?_⟩⟩
    rw [r'.isnon]
    have e : (!d.tl.isNone) = d.tl.isSome := by cases d.tl <;> rfl
    rw [e]
    exact k H' s'
def spToldBy : Sp := fun vs H Q _ => ∃ v d r, vs = [v] ∧ DAt H v d ∧ d.size ≤ 40000 ∧ d.dep ≤ 60 ∧ d.tl = some r ∧ ∀ v' H', Same H H' → Res (fun L => H L = none) H' v' (some r) → Q v' H'
theorem ok_toldBy {f fg : Addr} {fd fdg : FuncData} (T : Top K mg "told_by" sToldBy pToldBy f fd) (TG : Top K mg "telling_of" sTellingOf pTellingOf fg fdg) (GG : FnOk P w K mg base CX0 6 fg fdg pTellingOf spTelling) : FnOk P w K mg base CX0 7 f fd pToldBy spToldBy := by
  refine T.F.ok scToldBy (fun vs H Q E h => ?_) (fun cdv A outer s H vs Q E hr h => ?_)
  · obtain ⟨_, _, _, rfl, _⟩ := h
    rfl
  · obtain ⟨v, d, r, rfl, hd, hz, hdp, e, k⟩ := h
    refine ⟨_, (pss_cons (ps_set (i := 1) scToldBy.nd rfl (Or.inl rfl) (pe_call GG hr rfl TG.g TG.F.kp TG.b .nil pass0 (pa_cons (pv 0) pa_nil)))
      (pss_cons (ps_if (pt_cmpR op_isN (pv 1) pe_non (nomark _)) pss_never pss_nil)
      (pss_one (ps_ret (pv 1))))), ?_⟩
    refine ⟨v, rfl, v, d, rfl, hd, hz, hdp, fun v' H' s' r' => ⟨_, rfl, rfl, _, rfl, ?_⟩⟩
    rw [r'.isnon, e]
    rw [e] at r'
    exact iteF ⟨_, rfl, k v' H' s' r'⟩
def spCheckDer : Sp := fun vs H Q _ => ∃ v d, vs = [v] ∧ DAt H v d ∧ d.size ≤ 40000 ∧ d.dep ≤ 60 ∧ d.tl.isSome = true ∧ ∀ H', Same H H' → Q .non H'
theorem ok_checkDer {f fi : Addr} {fd fdi : FuncData} (T : Top K mg "check_derivation" sCheckDerivation pCheckDerivation f fd) (TI : Top K mg "is_derivation" sIsDerivation pIsDerivation fi fdi) (GI : FnOk P w K mg base CX0 7 fi fdi pIsDerivation spIsDer) : FnOk P w K mg base CX0 8 f fd pCheckDerivation spCheckDer := by
  refine T.F.ok scCheckDerivation (fun vs H Q E h => ?_) (fun cdv A outer s H vs Q E hr h => ?_)
  · obtain ⟨_, _, rfl, _⟩ := h
    rfl
  · obtain ⟨v, d, rfl, hd, hz, hdp, e, k⟩ := h
    refine ⟨_, pss_one (ps_if (pt_not (pt_val (pe_call GI hr rfl TI.g TI.F.kp TI.b .nil pass0 (pa_cons (pv 0) pa_nil)))) pss_never pss_nil), ?_⟩
    refine ⟨v, rfl, v, d, rfl, hd, hz, hdp, fun H' s' => ⟨_, rfl, ?_⟩⟩
    rw [e]
    exact iteF (k H' s')
def spKnotsIn : Sp := fun vs H Q _ => ∃ v d, vs = [v] ∧ DAt H v d ∧ d.allK = true ∧ d.size ≤ 1000000 ∧ ∀ (L : Addr) (us : List V) (H' : Hp), Same H H' → H L = none → H' L = some (.lst us) → DsAt H' us d.nodes → Q (.ref L) H'
theorem ok_knotsIn {f fn fp : Addr} {fd fdn fdp : FuncData} (T : Top K mg "knots_in" sKnotsIn pKnotsIn f fd) (TN : Top K mg "nodes_in" sNodesIn pNodesIn fn fdn) (TP : Top K mg "parts_of_knot" sPartsOfKnot pPartsOfKnot fp fdp) (GN : FnOk P w K mg base CX0 3 fn fdn pNodesIn (spNodesK fp)) : FnOk P w K mg base CX0 4 f fd pKnotsIn spKnotsIn := by
  refine T.F.ok scKnotsIn (fun vs H Q E h => ?_) (fun cdv A outer s H vs Q E hr h => ?_)
  · obtain ⟨_, _, rfl, _⟩ := h
    rfl
  · obtain ⟨v, d, rfl, hd, ha, hz, k⟩ := h
    refine ⟨_, pss_one (ps_ret (pe_call GN hr rfl TN.g TN.F.kp TN.b .nil pass0 (pa_cons (pv 0) (pa_cons (pe_glob (v := .ref fp) rfl TP.g rfl) pa_nil)))), ?_⟩
    exact ⟨v, rfl, v, d, rfl, hd, ha, hz, k⟩
def spKnotsOf : Sp := fun vs H Q _ => ∃ v d, vs = [v] ∧ DAt H v d ∧ d.size ≤ 40000 ∧ d.dep ≤ 60 ∧ d.tl.isSome = true ∧ ∀ H', Same H H' → Q (.int (d.nodes.length : Nat)) H'
def spCheckKindT : Sp := fun vs H Q _ => ∃ v t, vs = [v] ∧ TyAt H v t ∧ t.d.dep ≤ 60 ∧ t.d.size ≤ 1000000 ∧ ∀ H', Same H H' → Q .non H'
theorem isKd_d {t : Ty} (h : t.wok) : t.d.isKd = true := by
  unfold D.isKd
  rw [t.ty_d h]
  rfl
theorem ok_checkKindT {f fi : Addr} {fd fdi : FuncData} (T : Top K mg "check_kind" sCheckKind pCheckKind f fd) (TI : Top K mg "is_kind" sIsKind pIsKind fi fdi) (GI : FnOk P w K mg base CX0 2 fi fdi pIsKind spIsKindD) : FnOk P w K mg base CX0 3 f fd pCheckKind spCheckKindT := by
  refine T.F.ok scCheckKind (fun vs H Q E h => ?_) (fun cdv A outer s H vs Q E hr h => ?_)
  · obtain ⟨_, _, rfl, _⟩ := h
    rfl
  · obtain ⟨v, t, rfl, ht, hd, hz, k⟩ := h
    refine ⟨_, pss_one (ps_if (pt_not (pt_val (pe_call GI hr rfl TI.g TI.F.kp TI.b .nil pass0 (pa_cons (pv 0) pa_nil)))) pss_never pss_nil), ?_⟩
    refine ⟨v, rfl, v, t.d, rfl, ht.d, hd, hz, fun H' s' => ⟨_, rfl, ?_⟩⟩
    rw [isKd_d ht.wok]
    exact iteF (k H' s')
/-- a row -/
def RowAt (H : Hp) (L : Addr) (ts : List Ty) : Prop := ∃ us, H L = some (.lst us) ∧ Tys H us ts
def RowOk (ts : List Ty) : Prop := ts.length ≤ 40000 ∧ ∀ t ∈ ts, t.d.dep ≤ 60 ∧ t.d.size ≤ 1000000
def spAreKinds : Sp := fun vs H Q _ => ∃ L ts, vs = [.ref L] ∧ RowAt H L ts ∧ RowOk ts ∧ ∀ H', Same H H' → Q (.bl true) H'
def spCheckRow : Sp := fun vs H Q _ => ∃ L ts, vs = [.ref L] ∧ RowAt H L ts ∧ RowOk ts ∧ ts ≠ [] ∧ ∀ H', Same H H' → Q .non H'
def spIsRow : Sp := fun vs H Q _ => ∃ L ts, vs = [.ref L] ∧ RowAt H L ts ∧ RowOk ts ∧ ts ≠ [] ∧ ∀ H', Same H H' → Q (.bl true) H'
def spAsked : Sp := fun vs H Q _ => ∃ L ts g goal, vs = [.ref L, g] ∧ RowAt H L ts ∧ RowOk ts ∧ ts ≠ [] ∧ TyAt H g goal ∧ goal.d.dep ≤ 60 ∧ goal.d.size ≤ 1000000 ∧ ∀ H', Same H H' → Q .non H'
theorem RowAt.same {H H' : Hp} {L : Addr} {ts : List Ty} (h : RowAt H L ts) (s : Same H H') : RowAt H' L ts := by
  obtain ⟨us, e, hT⟩ := h
  exact ⟨us, s _ _ e, hT.mono (TK.of_same s)⟩
def spIsDerOf : Sp := fun vs H Q _ => ∃ L ts g goal v d, vs = [.ref L, g, v] ∧ RowAt H L ts ∧ RowOk ts ∧ ts ≠ [] ∧ TyAt H g goal ∧ goal.d.dep ≤ 60 ∧ goal.d.size ≤ 1000000 ∧ DAt H v d ∧ d.size ≤ 40000 ∧ d.dep ≤ 60 ∧ ∀ H', Same H H' → Q (.bl (decide (d.tl = some (ts, goal)))) H'
/-- is it a cut? -/
def D.isCut : D → Bool
  | .t (.s nm :: _) => decide (nm = "cut")
  | _ => false
def spCutsOf : Sp := fun vs H Q _ => ∃ v d, vs = [v] ∧ DAt H v d ∧ d.size ≤ 40000 ∧ d.dep ≤ 60 ∧ d.tl.isSome = true ∧ ∀ H', Same H H' → Q (.int ((d.nodes.filter D.isCut).length : Nat)) H'
theorem filter_snoc5 {α : Type} (p : α → Bool) (l : List α) (i : Nat) (x : α) (h : l[i]? = some x) : (l.take (i + 1)).filter p = if p x = true then (l.take i).filter p ++ [x] else (l.take i).filter p := by
  rw [List.take_add_one, h, List.filter_append]
  by_cases c : p x = true <;> simp [List.filter, c]
theorem ok_cutsOf {f fc fk : Addr} {fd fdc fdk : FuncData} (T : Top K mg "cuts_of" sCutsOf pCutsOf f fd) (TC : Top K mg "check_derivation" sCheckDerivation pCheckDerivation fc fdc) (TK_ : Top K mg "knots_in" sKnotsIn pKnotsIn fk fdk) (GC : FnOk P w K mg base CX0 8 fc fdc pCheckDerivation spCheckDer)
    (GK : FnOk P w K mg base CX0 4 fk fdk pKnotsIn spKnotsIn) (B : Blt mg) : FnOk P w K mg base CX0 9 f fd pCutsOf spCutsOf := by
  refine T.F.ok scCutsOf (fun vs H Q E h => ?_) (fun cdv A outer s H vs Q E hr h => ?_)
  · obtain ⟨_, _, rfl, _⟩ := h
    rfl
  · obtain ⟨v, d, rfl, hd, hz, hdp, e, k⟩ := h
    have hr4 : Room 4 _ := hr.mono (by decide)
    obtain ⟨r, er⟩ := Option.isSome_iff_exists.mp e
    have ha := tl_allK d.size d r (Nat.le_refl _) er
    obtain ⟨nl, na⟩ := nodes_len d.size d (Nat.le_refl _) ha
    refine ⟨_, (pss_cons (ps_expr (pe_call GC hr rfl TC.g TC.F.kp TC.b .nil pass0 (pa_cons (pv 0) pa_nil)))
      (pss_one (ps_ret (pe_callB call_len_seq (by rfl) B.len PySem.boot_len (pa_cons (pe_lc (own := [("knot", 1)]) (g := gName 1) rfl scCutsOf.nd (pi_list (pe_call GK hr4 rfl TK_.g TK_.F.kp TK_.b .nil pass0 (pa_cons (pv 0) pa_nil))) (blkOk_by (N := nCutsOf) (sc := defScope sCutsOf) (by decide +kernel)) (fun _ _ _ _ _ => pg_name (i := 1) scCutsOf.nd rfl (Or.inl rfl)) (fun _ _ _ _ _ => pts_one (pt_cmpR op_eq (pe_ix (show IxR _ (rIxT K) from ix_tup) (pv 1) pe_int (fun _ _ => rfl)) pe_str (nomark _))) (fun _ _ _ _ _ => (pv 1))) pa_nil))))), ?_⟩
    refine ⟨v, rfl, v, d, rfl, hd, hz, hdp, e, fun H1 s1 => ⟨v, rfl, v, d, rfl, hd.mono (TK.of_same s1), ha, by omega, fun L us H2 s2 nL eL hn => ⟨L, rfl, ⟨_, SqL.of eL⟩, fun W hD => ?_⟩⟩⟩
    have ln := hn.length
    refine lc_list (K := K) (xs := us) (fun i H' => Same H2 H' ∧ ∃ acc, H' W = some (.lst acc) ∧ acc.length = ((d.nodes.take i).filter D.isCut).length) ⟨same_upd hD, [], upd_same, by simp⟩ (fun i H' _ q => SqL.of (q.1 _ _ eL)) ?_ ?_
    · rintro i x H' hx ⟨sI, acc, eD, la⟩
      obtain ⟨u, hu, hxu⟩ := hn.at_ hx
      obtain ⟨hi, _⟩ := List.getElem?_eq_some_iff.mp hu
      obtain ⟨f0, _⟩ := allK_fm (na u (List.mem_of_getElem? hu))
      obtain ⟨nm, rr, rfl, _, _⟩ := f0.head
      have fs := filter_snoc5 D.isCut d.nodes i _ hu
      have la2 : acc.length ≤ i := by
        rw [la]
        have := List.length_filter_le D.isCut (d.nodes.take i)
        rw [List.length_take] at this
        omega
      cases hxu with
      | @t p xs _ ex hk =>
        cases hk with
        | cons h0 hk =>
          cases h0
          refine ⟨rfl, _, rfl, p, _, _, _, rfl, rfl, SqT.of (sI _ _ ex), atI_nat (j := 0) rfl, rfl, _, rfl, ?_⟩
          by_cases c : nm = "cut"
          · rw [decide_eq_true (show V.str nm = V.str "cut" by rw [c])]
            refine iteT ⟨_, rfl, acc, eD, by rw [sizeLine_eq]; omega, same_over sI hD, acc ++ [.ref p], upd_same, ?_⟩
            rw [fs, if_pos (by simp [D.isCut, c]), List.length_append, List.length_append, la]
            rfl
          · rw [decide_eq_false (show ¬ V.str nm = V.str "cut" from fun z => c (by injection z))]
            refine iteF ⟨sI, acc, eD, ?_⟩
            rw [fs, if_neg (by simp [D.isCut, c]), la]
    · rintro H' ⟨sI, acc, eD, la⟩
      refine ⟨W, acc, rfl, .inl (SqL.of eD), ?_⟩
      rw [ln, List.take_length] at la
      rw [la]
      exact k H' ((s1.trans s2).trans sI)
end
end U6

namespace U6
open PySem PySem.Spec PyProof.Rows L2 KT
open PySem.W (Frag)
/-- a number, a truth value, a text -/
inductive Scl : V → Prop
  | i (n : Int) : Scl (.int n)
  | b (x : Bool) : Scl (.bl x)
  | s (z : Str) : Scl (.str z)
  | o : Scl .non
/-- equal data, to the depth k -/
def SameDt (H : Hp) : Nat → V → V → Prop
  | 0, v, v' => v' = v ∧ Scl v
  | k + 1, v, v' => (v' = v ∧ Scl v) ∨ ∃ a a' xs ys, v = .ref a ∧ v' = .ref a' ∧ ((H a = some (.lst xs) ∧ H a' = some (.lst ys)) ∨ (H a = some (.tup xs) ∧ H a' = some (.tup ys))) ∧ xs.length = ys.length ∧ xs.length ≤ 1000000 ∧
    ∀ (i : Nat) (x y : V), xs[i]? = some x → ys[i]? = some y → SameDt H k x y
theorem SameDt.mono {H H' : Hp} (s : Same H H') : ∀ {k : Nat} {v v' : V}, SameDt H k v v' → SameDt H' k v v'
  | 0, _, _, h => h
  | k + 1, _, _, h => by
    rcases h with h | ⟨a, a', xs, ys, e1, e2, h, hl, hm, hx⟩
    · exact .inl h
    · exact .inr ⟨a, a', xs, ys, e1, e2, h.imp (fun q => ⟨s _ _ q.1, s _ _ q.2⟩) fun q => ⟨s _ _ q.1, s _ _ q.2⟩, hl, hm, fun i x y h1 h2 => (hx i x y h1 h2).mono s⟩
theorem SameDt.up {H : Hp} : ∀ {k : Nat} {v v' : V}, SameDt H k v v' → SameDt H (k + 1) v v'
  | 0, _, _, h => .inl h
  | k + 1, _, _, h => by
    rcases h with h | ⟨a, a', xs, ys, e1, e2, h, hl, hm, hx⟩
    · exact .inl h
    · exact .inr ⟨a, a', xs, ys, e1, e2, h, hl, hm, fun i x y h1 h2 => (hx i x y h1 h2).up⟩
theorem SameDt.le {H : Hp} {k j : Nat} {v v' : V} (h : SameDt H k v v') (l : k ≤ j) : SameDt H j v v' := by
  induction j with
  | zero => obtain rfl : k = 0 := by omega
            exact h
  | succ j ih =>
    by_cases e : k = j + 1
    · rw [← e]; exact h
    · exact (ih (by omega)).up
theorem SameDt.scl {H : Hp} {k : Nat} {v : V} (h : Scl v) : SameDt H k v v := by
  cases k
  · exact ⟨rfl, h⟩
  · exact .inl ⟨rfl, h⟩
theorem SameDt.ty {H : Hp} {v v' : V} {t : Ty} (h : TyAt H v t) : TyAt H v' t → SameDt H t.signs v v' := by
  induction h generalizing v' with
  | w h =>
    intro h'
    cases h'
    exact ⟨rfl, .s _⟩
  | @n p g x y a b e h1 h2 i j =>
    intro h'
    cases h' with
    | @n p' _ x' y' _ _ e' k1 k2 =>
      have q : SameDt H (a.signs + b.signs + 1) (.ref p) (.ref p') := by
        refine .inr ⟨p, p', _, _, rfl, rfl, .inr ⟨e, e'⟩, rfl, by show 3 ≤ 1000000; omega, fun i' u u' h3 h4 => ?_⟩
        match i', h3, h4 with
        | 0, h3, h4 =>
          obtain rfl := Option.some.inj h3
          obtain rfl := Option.some.inj h4
          exact .scl (.s _)
        | 1, h3, h4 =>
          obtain rfl := Option.some.inj h3
          obtain rfl := Option.some.inj h4
          exact (i k1).le (by omega)
        | 2, h3, h4 =>
          obtain rfl := Option.some.inj h3
          obtain rfl := Option.some.inj h4
          exact (j k2).le (by omega)
        | n + 3, h3, h4 => exact absurd h3 (by simp)
      exact q.le (by simp only [Ty.signs]; omega)
theorem walk_zipT {K : Frag} {a b : Addr} {xs ys : List V} {n : Nat} (hn : n = min xs.length ys.length) : Walk (RZ.ItzT K a b) n (fun H => SqT K H a xs ∧ SqT K H b ys) (YPair (fun i => xs[i]?) (fun i => ys[i]?)) := by
  subst hn
  refine ⟨fun i _ hi q => ?_, fun _ q => ⟨xs, ys, q.1, q.2, by omega⟩, fun i H v H' _ q y => ?_⟩
  · have h1 : i < xs.length := by omega
    have h2 : i < ys.length := by omega
    exact ⟨xs, ys, xs[i], ys[i], q.1, q.2, by simp [h1], by simp [h2]⟩
  · obtain ⟨T, x, z, h1, h2, h3, h4, h5⟩ := y
    exact ⟨T, x, z, h1, h2, h3, h4 xs q.1, h5 ys q.2⟩
theorem pe_never {X : Cx} {e : Expr} : PE X e (fun _ _ _ => False) := ⟨fun _ _ _ _ _ _ h => h.elim⟩
section
variable {P : Program} {w : World} {K : Frag} {mg : Str → Option Value} {base : Heap}
def spExact (d : Nat) : Sp := fun vs H Q _ => ∃ v v', vs = [v, v'] ∧ SameDt H d v v' ∧ ∀ H', Same H H' → Q (.bl true) H'
theorem scl_ty {v : V} (h : Scl v) : ∃ (c : String) (bi bb : Bool), (∀ H, TyX K H v (.type c)) ∧ PySem.W.kitAny K (.type c) [.type "list", .type "tuple"] = some false ∧ PySem.W.kitOne K (.type c) (.type "dict") = some false ∧
    PySem.W.kitOne K (.type c) (.type "int") = some bi ∧ PySem.W.kitOne K (.type c) (.type "bool") = some bb ∧ scal v v = true := by
  have f2 : ∀ c : String, kitB c "list" = some false → kitB c "tuple" = some false → PySem.W.kitAny K (.type c) [.type "list", .type "tuple"] = some false := by
    intro c h1 h2
    exact kitAny_cons (kit_ty h1) (fun _ => kitAny_cons (kit_ty h2) (fun _ => kitAny_nil) (fun z => by cases z)) (fun z => by cases z)
  cases h with
  | i n => exact ⟨"int", true, false, fun _ => .base (.int n), f2 _ (by decide +kernel) (by decide +kernel), kit_ty (by decide +kernel), kit_ty (by decide +kernel), kit_ty (by decide +kernel), rfl⟩
  | b x => exact ⟨"bool", true, true, fun _ => .base (.bl x), f2 _ (by decide +kernel) (by decide +kernel), kit_ty (by decide +kernel), kit_ty (by decide +kernel), kit_ty (by decide +kernel), rfl⟩
  | o => exact ⟨"NoneType", false, false, fun _ => .base .non, f2 _ (by decide +kernel) (by decide +kernel), kit_ty (by decide +kernel), kit_ty (by decide +kernel), kit_ty (by decide +kernel), rfl⟩
  | s z => exact ⟨"str", false, false, fun _ => .base (.str z), f2 _ (by decide +kernel) (by decide +kernel), kit_ty (by decide +kernel), kit_ty (by decide +kernel), kit_ty (by decide +kernel), rfl⟩
theorem ok_exact {f : Addr} {fd : FuncData} (T : Top K mg "_law_exact" sLExact pLExact f fd) (B : Blt mg) : ∀ d : Nat, d ≤ 60 → FnOk P w K mg base CX0 (1 + d) f fd pLExact (spExact d)
  | 0, _ => by
    refine T.F.ok scLExact (fun vs H Q E h => ?_) (fun cdv A outer s H vs Q E hr h => ?_)
    · obtain ⟨_, _, rfl, _⟩ := h
      rfl
    · obtain ⟨v, v', rfl, ⟨rfl, hs⟩, k⟩ := h
      refine ⟨_, (pss_cons (ps_if (pt_val (pe_callB call_isiT (by rfl) B.isi (by decide +kernel) (pa_cons (pv 0) (pa_cons (pe_tup (pa_cons (pe_bltn (v := .ty "list") (by rfl) B.list (by decide +kernel) rfl) (pa_cons (pe_bltn (v := .ty "tuple") (by rfl) B.tuple (by decide +kernel) rfl) pa_nil))) pa_nil)))) pss_never pss_nil)
      (pss_cons (ps_if (pt_val (pe_callB call_isi (by rfl) B.isi (by decide +kernel) (pa_cons (pv 0) (pa_cons (pe_bltn (v := .ty "dict") (by rfl) B.dict (by decide +kernel) rfl) pa_nil)))) pss_never pss_nil)
      (pss_cons (ps_set (i := 2) scLExact.nd rfl (Or.inl rfl) (pe_cmpR op_eq (pe_callB call_isi (by rfl) B.isi (by decide +kernel) (pa_cons (pv 0) (pa_cons (pe_bltn (v := .ty "int") (by rfl) B.int (by decide +kernel) rfl) pa_nil))) (pe_callB call_isi (by rfl) B.isi (by decide +kernel) (pa_cons (pv 1) (pa_cons (pe_bltn (v := .ty "int") (by rfl) B.int (by decide +kernel) rfl) pa_nil))) (nomark _)))
      (pss_one (ps_ret (pe_and (pv 2) (pe_and (pe_cmpR op_eq (pe_callB call_isi (by rfl) B.isi (by decide +kernel) (pa_cons (pv 0) (pa_cons (pe_bltn (v := .ty "bool") (by rfl) B.bool_ (by decide +kernel) rfl) pa_nil))) (pe_callB call_isi (by rfl) B.isi (by decide +kernel) (pa_cons (pv 1) (pa_cons (pe_bltn (v := .ty "bool") (by rfl) B.bool_ (by decide +kernel) rfl) pa_nil))) (nomark _)) (pe_one (pe_cmpR op_eq (pv 0) (pv 1) (nomark _)))))))))), ?_⟩
      obtain ⟨c, bi, bb, ty, k1, k2, k3, k4, sc⟩ := scl_ty (K := K) hs
      refine ⟨v', rfl, by show 2 ≤ sizeLine; rw [sizeLine_eq]; omega, fun p hp => ⟨v', p, _, _, _, false, rfl, upd_same, .cons (.ty "list") (.cons (.ty "tuple") .nil), ty _, k1, false, rfl, iteF ?_⟩⟩
      refine ⟨_, rfl, _, _, _, _, false, rfl, .ty "dict", ty _, k2, false, rfl, iteF ?_⟩
      refine ⟨_, rfl, _, _, _, _, bi, rfl, .ty "int", ty _, k3, _, rfl, _, _, _, _, bi, rfl, .ty "int", ty _, k3, rfl, ?_⟩
      refine ⟨_, rfl, true, congrArg V.bl (decide_eq_true rfl), ?_⟩
      refine ⟨_, rfl, _, _, _, _, bb, rfl, .ty "bool", ty _, k4, _, rfl, _, _, _, _, bb, rfl, .ty "bool", ty _, k4, rfl, true, congrArg V.bl (decide_eq_true rfl), ?_⟩
      refine ⟨_, rfl, _, rfl, sc, ?_⟩
      have e : decide (v' = v') = true := decide_eq_true rfl
      rw [e]
      exact k _ (same_upd hp)
  | d + 1, hd => by
    have GE : FnOk P w K mg base CX0 (1 + d) f fd pLExact (spExact d) := ok_exact T B d (by omega)
    refine T.F.ok (k := 1 + d) scLExact (fun vs H Q E h => ?_) (fun cdv A outer s H vs Q E hr h => ?_)
    · obtain ⟨_, _, rfl, _⟩ := h
      rfl
    · obtain ⟨v, v', rfl, hd', k⟩ := h
      refine ⟨_, (pss_cons (ps_if (pt_val (pe_callB call_isiT (by rfl) B.isi (by decide +kernel) (pa_cons (pv 0) (pa_cons (pe_tup (pa_cons (pe_bltn (v := .ty "list") (by rfl) B.list (by decide +kernel) rfl) (pa_cons (pe_bltn (v := .ty "tuple") (by rfl) B.tuple (by decide +kernel) rfl) pa_nil))) pa_nil)))) (pss_cons (ps_set (i := 2) scLExact.nd rfl (Or.inl rfl) (pe_and (pe_cmpR op_eq (pe_callB call_isi (by rfl) B.isi (by decide +kernel) (pa_cons (pv 1) (pa_cons (pe_bltn (v := .ty "list") (by rfl) B.list (by decide +kernel) rfl) pa_nil))) (pe_callB call_isi (by rfl) B.isi (by decide +kernel) (pa_cons (pv 0) (pa_cons (pe_bltn (v := .ty "list") (by rfl) B.list (by decide +kernel) rfl) pa_nil))) (nomark _)) (pe_one (pe_cmpR op_eq (pe_callB call_isi (by rfl) B.isi (by decide +kernel) (pa_cons (pv 1) (pa_cons (pe_bltn (v := .ty "tuple") (by rfl) B.tuple (by decide +kernel) rfl) pa_nil))) (pe_callB call_isi (by rfl) B.isi (by decide +kernel) (pa_cons (pv 0) (pa_cons (pe_bltn (v := .ty "tuple") (by rfl) B.tuple (by decide +kernel) rfl) pa_nil))) (nomark _)))))
      (pss_one (ps_ret (pe_and (pv 2) (pe_and (pe_cmpR op_eq (pe_callB call_len_seq (by rfl) B.len PySem.boot_len (pa_cons (pv 0) pa_nil)) (pe_callB call_len_seq (by rfl) B.len PySem.boot_len (pa_cons (pv 1) pa_nil)) (nomark _)) (pe_one (pe_callB (cr_all rfl) (by rfl) B.all (by decide +kernel) (pa_cons (pe_lc (own := [("a", 3), ("b", 4)]) (g := gTup K 2 (gCons (gName 3) (gCons (gName 4) gNil))) (tt := tYes) rfl scLExact.nd (RZ.pi_zipA (by rfl) B.zip (pa_cons (pv 0) (pa_cons (pv 1) pa_nil))) (blkOk_by (N := nLExact) (sc := defScope sLExact) (by decide +kernel)) (fun _ _ _ _ _ => pg_tup (by rfl) (pgs_cons (pg_name (i := 3) scLExact.nd rfl (Or.inl rfl)) (pgs_cons (pg_name (i := 4) scLExact.nd rfl (Or.inl rfl)) pgs_nil))) (fun _ _ _ _ _ => pts_nil)
            (fun _ _ _ _ _ => (pe_call GE hr rfl T.g T.F.kp T.b .nil pass0 (pa_cons (pv 3) (pa_cons (pv 4) pa_nil))))) pa_nil)))))))) pss_nil)
      (pss_cons (ps_if (pt_val (pe_callB call_isi (by rfl) B.isi (by decide +kernel) (pa_cons (pv 0) (pa_cons (pe_bltn (v := .ty "dict") (by rfl) B.dict (by decide +kernel) rfl) pa_nil)))) pss_never pss_nil)
      (pss_cons (ps_set (i := 2) scLExact.nd rfl (Or.inl rfl) (pe_cmpR op_eq (pe_callB call_isi (by rfl) B.isi (by decide +kernel) (pa_cons (pv 0) (pa_cons (pe_bltn (v := .ty "int") (by rfl) B.int (by decide +kernel) rfl) pa_nil))) (pe_callB call_isi (by rfl) B.isi (by decide +kernel) (pa_cons (pv 1) (pa_cons (pe_bltn (v := .ty "int") (by rfl) B.int (by decide +kernel) rfl) pa_nil))) (nomark _)))
      (pss_one (ps_ret (pe_and (pv 2) (pe_and (pe_cmpR op_eq (pe_callB call_isi (by rfl) B.isi (by decide +kernel) (pa_cons (pv 0) (pa_cons (pe_bltn (v := .ty "bool") (by rfl) B.bool_ (by decide +kernel) rfl) pa_nil))) (pe_callB call_isi (by rfl) B.isi (by decide +kernel) (pa_cons (pv 1) (pa_cons (pe_bltn (v := .ty "bool") (by rfl) B.bool_ (by decide +kernel) rfl) pa_nil))) (nomark _)) (pe_one (pe_cmpR op_eq (pv 0) (pv 1) (nomark _)))))))))), ?_⟩
      rcases hd' with ⟨rfl, hs⟩ | ⟨a, a', xs, ys, rfl, rfl, hk, hl, hm, hx⟩
      · obtain ⟨c, bi, bb, ty, k1, k2, k3, k4, sc⟩ := scl_ty (K := K) hs
        refine ⟨v', rfl, by show 2 ≤ sizeLine; rw [sizeLine_eq]; omega, fun p hp => ⟨v', p, _, _, _, false, rfl, upd_same, .cons (.ty "list") (.cons (.ty "tuple") .nil), ty _, k1, false, rfl, iteF ?_⟩⟩
        refine ⟨_, rfl, _, _, _, _, false, rfl, .ty "dict", ty _, k2, false, rfl, iteF ?_⟩
        refine ⟨_, rfl, _, _, _, _, bi, rfl, .ty "int", ty _, k3, _, rfl, _, _, _, _, bi, rfl, .ty "int", ty _, k3, rfl, ?_⟩
        refine ⟨_, rfl, true, congrArg V.bl (decide_eq_true rfl), ?_⟩
        refine ⟨_, rfl, _, _, _, _, bb, rfl, .ty "bool", ty _, k4, _, rfl, _, _, _, _, bb, rfl, .ty "bool", ty _, k4, rfl, true, congrArg V.bl (decide_eq_true rfl), ?_⟩
        refine ⟨_, rfl, _, rfl, sc, ?_⟩
        have e : decide (v' = v') = true := decide_eq_true rfl
        rw [e]
        exact k _ (same_upd hp)

      · rcases hk with ⟨h1, h2⟩ | ⟨h1, h2⟩
        · have tyA : ∀ p, H p = none → ∀ b zs, H b = some (.lst zs) → TyX K (upd H p (.tup [.ty "list", .ty "tuple"])) (.ref b) (.type "list") := fun p hp b zs e => .base (.lst (show upd H p _ b = _ by rw [upd_ne (ne_of_none e hp)]; exact e))
          refine ⟨.ref a, rfl, by show 2 ≤ sizeLine; rw [sizeLine_eq]; omega, fun p hp => ⟨.ref a, p, _, _, _, true, rfl, upd_same, .cons (.ty "list") (.cons (.ty "tuple") .nil), tyA p hp a xs h1, kitAny_cons (b := true) (kit_ty (by decide +kernel)) (fun z => by cases z) (fun _ => rfl), true, rfl, iteT ?_⟩⟩
          have s1 : Same H (upd H p (.tup [.ty "list", .ty "tuple"])) := same_upd hp
          refine ⟨_, rfl, _, _, _, _, true, rfl, .ty "list", tyA p hp a' ys h2, kit_ty (by decide +kernel), _, rfl, _, _, _, _, true, rfl, .ty "list", tyA p hp a xs h1, kit_ty (by decide +kernel), rfl, true, congrArg V.bl (decide_eq_true rfl), ?_⟩
          refine ⟨_, rfl, _, _, _, _, false, rfl, .ty "tuple", tyA p hp a' ys h2, kit_ty (by decide +kernel), _, rfl, _, _, _, _, false, rfl, .ty "tuple", tyA p hp a xs h1, kit_ty (by decide +kernel), rfl, ?_⟩
          refine ⟨_, rfl, true, congrArg V.bl (decide_eq_true rfl), ?_⟩
          refine ⟨_, rfl, a, xs, rfl, .inl (SqL.of (s1 _ _ h1)), _, rfl, a', ys, rfl, .inl (SqL.of (s1 _ _ h2)), rfl, true, congrArg V.bl (decide_eq_true (by rw [hl])), ?_⟩
          refine ⟨_, rfl, _, rfl, a, a', xs, ys, rfl, .inl ⟨SqL.of (s1 _ _ h1), SqL.of (s1 _ _ h2), fun D hD => ?_⟩⟩
          have sD : Same H (upd (upd H p (.tup [.ty "list", .ty "tuple"])) D (.lst [])) := s1.trans (same_upd hD)
          have nHD : H D = none := s1.free hD
          refine lc_it (walk_zip (n := xs.length) (by omega)) (fun i H' => Same H H' ∧ H' D = some (.lst (List.replicate i (.bl true)))) ⟨sD, upd_same⟩ (fun i H' _ q => ⟨SqL.of (q.1 _ _ h1), SqL.of (q.1 _ _ h2)⟩) ?_ ?_
          · rintro i x H' H2 hi ⟨sI, eD⟩ ⟨Tp, x1, x2, rfl, nT, rfl, g1, g2⟩
            have s2 : Same H' (upd H' Tp (.tup [x1, x2])) := same_upd nT
            refine ⟨Tp, _, rfl, SqT.of upd_same, rfl, _, _, rfl, _, _, rfl, rfl, rfl, ?_⟩
            refine ⟨_, rfl, _, rfl, x1, x2, rfl, (hx i x1 x2 g1 g2).mono (sI.trans s2), fun H3 s3 => ⟨_, s3 _ _ (s2 _ _ eD), by rw [List.length_replicate, sizeLine_eq]; omega, ?_, ?_⟩⟩
            · exact same_over ((sI.trans s2).trans s3) nHD
            · rw [upd_same, ← List.replicate_succ']
          · rintro H' ⟨sI, eD⟩
            refine ⟨D, List.replicate xs.length true, rfl, SqL.of (by rw [eD, List.map_replicate]), ?_⟩
            have e : (List.replicate xs.length true).all id = true := by
              rw [List.all_eq_true]
              intro b hb
              exact (List.mem_replicate.mp hb).2
            rw [e]
            exact k _ sI
        · have tyA : ∀ p, H p = none → ∀ b zs, H b = some (.tup zs) → TyX K (upd H p (.tup [.ty "list", .ty "tuple"])) (.ref b) (.type "tuple") := fun p hp b zs e => .base (.tup (show upd H p _ b = _ by rw [upd_ne (ne_of_none e hp)]; exact e))
          refine ⟨.ref a, rfl, by show 2 ≤ sizeLine; rw [sizeLine_eq]; omega, fun p hp => ⟨.ref a, p, _, _, _, true, rfl, upd_same, .cons (.ty "list") (.cons (.ty "tuple") .nil), tyA p hp a xs h1, kitAny_cons (b := false) (kit_ty (by decide +kernel)) (fun _ => kitAny_cons (b := true) (kit_ty (by decide +kernel)) (fun z => by cases z) (fun _ => rfl)) (fun z => by cases z), true, rfl, iteT ?_⟩⟩
          have s1 : Same H (upd H p (.tup [.ty "list", .ty "tuple"])) := same_upd hp
          refine ⟨_, rfl, _, _, _, _, false, rfl, .ty "list", tyA p hp a' ys h2, kit_ty (by decide +kernel), _, rfl, _, _, _, _, false, rfl, .ty "list", tyA p hp a xs h1, kit_ty (by decide +kernel), rfl, true, congrArg V.bl (decide_eq_true rfl), ?_⟩
          refine ⟨_, rfl, _, _, _, _, true, rfl, .ty "tuple", tyA p hp a' ys h2, kit_ty (by decide +kernel), _, rfl, _, _, _, _, true, rfl, .ty "tuple", tyA p hp a xs h1, kit_ty (by decide +kernel), rfl, ?_⟩
          refine ⟨_, rfl, true, congrArg V.bl (decide_eq_true rfl), ?_⟩
          refine ⟨_, rfl, a, xs, rfl, .inr (SqT.of (s1 _ _ h1)), _, rfl, a', ys, rfl, .inr (SqT.of (s1 _ _ h2)), rfl, true, congrArg V.bl (decide_eq_true (by rw [hl])), ?_⟩
          refine ⟨_, rfl, _, rfl, a, a', xs, ys, rfl, .inr ⟨SqT.of (s1 _ _ h1), SqT.of (s1 _ _ h2), fun D hD => ?_⟩⟩
          have sD : Same H (upd (upd H p (.tup [.ty "list", .ty "tuple"])) D (.lst [])) := s1.trans (same_upd hD)
          have nHD : H D = none := s1.free hD
          refine lc_it (walk_zipT (n := xs.length) (by omega)) (fun i H' => Same H H' ∧ H' D = some (.lst (List.replicate i (.bl true)))) ⟨sD, upd_same⟩ (fun i H' _ q => ⟨SqT.of (q.1 _ _ h1), SqT.of (q.1 _ _ h2)⟩) ?_ ?_
          · rintro i x H' H2 hi ⟨sI, eD⟩ ⟨Tp, x1, x2, rfl, nT, rfl, g1, g2⟩
            have s2 : Same H' (upd H' Tp (.tup [x1, x2])) := same_upd nT
            refine ⟨Tp, _, rfl, SqT.of upd_same, rfl, _, _, rfl, _, _, rfl, rfl, rfl, ?_⟩
            refine ⟨_, rfl, _, rfl, x1, x2, rfl, (hx i x1 x2 g1 g2).mono (sI.trans s2), fun H3 s3 => ⟨_, s3 _ _ (s2 _ _ eD), by rw [List.length_replicate, sizeLine_eq]; omega, ?_, ?_⟩⟩
            · exact same_over ((sI.trans s2).trans s3) nHD
            · rw [upd_same, ← List.replicate_succ']
          · rintro H' ⟨sI, eD⟩
            refine ⟨D, List.replicate xs.length true, rfl, SqL.of (by rw [eD, List.map_replicate]), ?_⟩
            have e : (List.replicate xs.length true).all id = true := by
              rw [List.all_eq_true]
              intro b hb
              exact (List.mem_replicate.mp hb).2
            rw [e]
            exact k _ sI
end
end U6

namespace U6
open PySem PySem.Spec PyProof.Rows L2 LamX KT
open PySem.W (Frag)
section
variable {P : Program} {w : World} {K : Frag} {mg : Str → Option Value} {base : Heap}
def spLSigns (d : Nat) : Sp := fun vs H Q _ => ∃ v t, vs = [v] ∧ TyAt H v t ∧ t.signs ≤ d ∧ Q (.int t.signs) H
theorem ok_lsigns {f : Addr} {fd : FuncData} (T : Top K mg "_law_signs" sLSigns pLSigns f fd) (B : Blt mg) : ∀ d : Nat, d ≤ 100 → FnOk P w K mg base CX0 (1 + d) f fd pLSigns (spLSigns d)
  | 0, _ => by
    refine T.F.ok scLSigns (fun vs H Q E h => ?_) (fun cdv A outer s H vs Q E hr h => ?_)
    · obtain ⟨_, _, rfl, _⟩ := h
      rfl
    · obtain ⟨v, t, rfl, ht, hd, k⟩ := h
      refine ⟨_, (pss_one (ps_ret (pe_ifExp (pt_val (pe_callB call_isi (by rfl) B.isi (by decide +kernel) (pa_cons (pv 0) (pa_cons (pe_bltn (v := .ty "str") (by rfl) B.str_ (by decide +kernel) rfl) pa_nil)))) pe_int pe_never))), ?_⟩
      cases ht with
      | @w z h => exact ⟨_, rfl, _, _, _, _, true, rfl, .ty "str", .base (.str z), kit_ty (by decide +kernel), true, rfl, iteT k⟩
      | @n p g x y a b e h1 h2 =>
        simp only [Ty.signs] at hd
        omega
  | d + 1, hd => by
    have GP : FnOk P w K mg base CX0 (1 + d) f fd pLSigns (spLSigns d) := ok_lsigns T B d (by omega)
    refine T.F.ok (k := 1 + d) scLSigns (fun vs H Q E h => ?_) (fun cdv A outer s H vs Q E hr h => ?_)
    · obtain ⟨_, _, rfl, _⟩ := h
      rfl
    · obtain ⟨v, t, rfl, ht, hd', k⟩ := h
      refine ⟨_, (pss_one (ps_ret (pe_ifExp (pt_val (pe_callB call_isi (by rfl) B.isi (by decide +kernel) (pa_cons (pv 0) (pa_cons (pe_bltn (v := .ty "str") (by rfl) B.str_ (by decide +kernel) rfl) pa_nil)))) pe_int (pe_op op_add (pe_op op_add pe_int (pe_call GP hr rfl T.g T.F.kp T.b .nil pass0 (pa_cons (pe_ix ix_tup (pv 0) pe_int (fun _ _ => rfl)) pa_nil))) (pe_call GP hr rfl T.g T.F.kp T.b .nil pass0 (pa_cons (pe_ix ix_tup (pv 0) pe_int (fun _ _ => rfl)) pa_nil)))))), ?_⟩
      cases ht with
      | @w z h => exact ⟨_, rfl, _, _, _, _, true, rfl, .ty "str", .base (.str z), kit_ty (by decide +kernel), true, rfl, iteT k⟩
      | @n p g x y a b e h1 h2 =>
        simp only [Ty.signs] at hd'
        refine ⟨_, rfl, _, _, _, _, false, rfl, .ty "str", .base (.tup e), kit_ty (by decide +kernel), false, rfl, iteF ?_⟩
        refine ⟨_, rfl, p, _, _, _, rfl, rfl, SqT.of e, atI_nat (j := 1) rfl, x, a, rfl, h1, by omega, _, _, rfl, rfl, ?_⟩
        refine ⟨_, rfl, p, _, _, _, rfl, rfl, SqT.of e, atI_nat (j := 2) rfl, y, b, rfl, h2, by omega, _, _, rfl, rfl, ?_⟩
        have e1 : (1 : Int) + (a.signs : Int) + (b.signs : Int) = ((1 + a.signs + b.signs : Nat) : Int) := by omega
        dsimp only
        rw [e1]
        exact k
def D.pl (m : Int) : D → Bool
  | .i n => decide (0 ≤ n) && decide (n < m)
  | _ => false
def spIsPlace : Sp := fun vs H Q _ => ∃ v d m, vs = [v, .int m] ∧ DAt H v d ∧ Q (.bl (d.pl m)) H
theorem ok_isPlace {f : Addr} {fd : FuncData} (T : Top K mg "_law_is_place" sLIsPlace pLIsPlace f fd) (B : Blt mg) : FnOk P w K mg base CX0 1 f fd pLIsPlace spIsPlace := by
  refine T.F.ok scLIsPlace (fun vs H Q E h => ?_) (fun cdv A outer s H vs Q E hr h => ?_)
  · obtain ⟨_, _, _, rfl, _⟩ := h
    rfl
  · obtain ⟨v, d, m, rfl, hd, k⟩ := h
    refine ⟨_, pss_one (ps_ret (pe_and (pe_callB call_isi (by rfl) B.isi (by decide +kernel) (pa_cons (pv 0) (pa_cons (pe_bltn (v := .ty "int") (by rfl) B.int (by decide +kernel) rfl) pa_nil))) (pe_and (pe_not (pe_callB call_isi (by rfl) B.isi (by decide +kernel) (pa_cons (pv 0) (pa_cons (pe_bltn (v := .ty "bool") (by rfl) B.bool_ (by decide +kernel) rfl) pa_nil)))) (pe_one (pe_chain op_le op_lt pe_int (pv 0) (pv 1)))))), ?_⟩
    refine ⟨_, rfl, _, _, _, _, d.isInt, rfl, .ty "int", hd.tyx, d.kint, _, rfl, ?_⟩
    cases hd with
    | s h => exact k
    | o => exact k
    | t e h => exact k
    | i n =>
      have k : Q (.bl (decide (0 ≤ n) && decide (n < m))) H := k
      refine ⟨_, rfl, _, _, _, _, false, rfl, .ty "bool", .base (.int n), kit_ty (by decide +kernel), false, rfl, true, rfl, _, rfl, _, _, rfl, rfl, _, rfl, ?_⟩
      by_cases c : 0 ≤ n
      · rw [decide_eq_true c, Bool.true_and] at k
        rw [decide_eq_true c]
        exact iteT ⟨_, rfl, _, _, rfl, rfl, k⟩
      · rw [decide_eq_false c, Bool.false_and] at k
        rw [decide_eq_false c]
        exact iteF k
theorem kd_t {ds : List D} (h : (D.t ds).isKd = true) : ∃ g a b, ds = [.s g, a, b] := by
  unfold D.isKd at h
  obtain ⟨t, ht⟩ := Option.isSome_iff_exists.mp h
  simp only [D.ty] at ht
  obtain ⟨g, x, y, a, b, e, _⟩ := mkTy_inv ht
  exact ⟨_, x, y, e⟩
theorem kd_3 (g : Str) (a b : D) : (D.t [.s g, a, b]).isKd = ((sgOf g).isSome && (a.isKd && b.isKd)) := by
  simp only [D.isKd, D.ty, tyAll, mkTy]
  cases e : sgOf g <;> cases a.ty <;> cases b.ty <;> simp [e]
theorem sg_in (g : Str) : inV (.str g) [V.str "over", .str "under", .str "then"] = (sgOf g).isSome := by
  have e := inV_str g [("over" : Str), "under", "then"]
  show inV (.str g) ([("over" : Str), "under", "then"].map V.str) = _
  rw [e]
  unfold sgOf
  by_cases h1 : g = "over"
  · subst h1
    decide +kernel
  · by_cases h2 : g = "then"
    · subst h2
      decide +kernel
    · by_cases h3 : g = "under"
      · subst h3
        decide +kernel
      · simp [h1, h2, h3]
def spLIsKind (n : Nat) : Sp := fun vs H Q _ => ∃ v d, vs = [v] ∧ DAt H v d ∧ d.dep ≤ n ∧ ∀ H', Same H H' → Q (.bl d.isKd) H'
theorem fn_vac {f : Addr} {fd : FuncData} {ps : List Str} : FnOk P w K mg base CX0 0 f fd ps (fun _ _ _ _ => False) := ⟨fun _ _ _ _ h => h.elim, fun _ _ _ _ _ _ _ _ _ _ _ _ _ h => h.elim⟩
theorem lisKind_step {f : Addr} {fd : FuncData} (T : Top K mg "_law_is_kind" sLIsKind pLIsKind f fd) (B : Blt mg) {n m : Nat} {sp' : Sp} (GP : FnOk P w K mg base CX0 m f fd pLIsKind sp')
    (hsp : ∀ v d H Q, DAt H v d → d.dep + 1 ≤ n → (∀ H', Same H H' → Q (.bl d.isKd) H') → sp' [v] H Q L2.E0) : FnOk P w K mg base CX0 (m + 1) f fd pLIsKind (spLIsKind n) := by
  refine T.F.ok scLIsKind (fun vs H Q E h => ?_) (fun cdv A outer s H vs Q E hr h => ?_)
  · obtain ⟨_, _, rfl, _⟩ := h
    rfl
  · obtain ⟨v, d, rfl, hd, hn, k⟩ := h
    refine ⟨_, (pss_cons (ps_if (pt_val (pe_callB call_isi (by rfl) B.isi (by decide +kernel) (pa_cons (pv 0) (pa_cons (pe_bltn (v := .ty "str") (by rfl) B.str_ (by decide +kernel) rfl) pa_nil)))) (pss_one (ps_ret (pe_and (pe_chain op_lt op_lt pe_int (pe_callB call_len_str (by rfl) B.len PySem.boot_len (pa_cons (pv 0) pa_nil)) pe_int) (pe_one (pe_callB (cr_all rfl) (by rfl) B.all (by decide +kernel) (pa_cons (pe_lc (own := [("letter", 1)]) (g := gName 1) (tt := tYes) rfl scLIsKind.nd (pi_str (pv 0)) (blkOk_by (N := nLIsKind) (sc := defScope sLIsKind) (by decide +kernel)) (fun _ _ _ _ _ => pg_name (i := 1) scLIsKind.nd rfl (Or.inl rfl)) (fun _ _ _ _ _ => pts_nil) (fun _ _ _ _ _ => (pe_cmpR op_in_sign (pv 1) pe_str (by rfl)))) pa_nil)))))) pss_nil)
      (pss_cons (ps_if (PW.pt (pw_or (pt_not (pt_val (pe_callB call_isi (by rfl) B.isi (by decide +kernel) (pa_cons (pv 0) (pa_cons (pe_bltn (v := .ty "tuple") (by rfl) B.tuple (by decide +kernel) rfl) pa_nil))))) (pw_or (pt_cmpR op_ne (pe_callB call_len_seq (by rfl) B.len PySem.boot_len (pa_cons (pv 0) pa_nil)) pe_int (nomark _)) (pw_or1 (pt_not (pt_val (pe_callB call_isi (by rfl) B.isi (by decide +kernel) (pa_cons (pe_ix ix_tup (pv 0) pe_int (fun _ _ => rfl)) (pa_cons (pe_bltn (v := .ty "str") (by rfl) B.str_ (by decide +kernel) rfl) pa_nil))))))))) (pss_one (ps_ret pe_bl)) pss_nil)
      (pss_one (ps_ret (pe_and (pe_cmpR op_in_seq (pe_ix ix_tup (pv 0) pe_int (fun _ _ => rfl)) (pe_tup (pa_cons pe_str (pa_cons pe_str (pa_cons pe_str pa_nil)))) (by rfl)) (pe_and (pe_call GP hr rfl T.g T.F.kp T.b .nil pass0 (pa_cons (pe_ix ix_tup (pv 0) pe_int (fun _ _ => rfl)) pa_nil)) (pe_one (pe_call GP hr rfl T.g T.F.kp T.b .nil pass0 (pa_cons (pe_ix ix_tup (pv 0) pe_int (fun _ _ => rfl)) pa_nil))))))))), ?_⟩
    refine ⟨_, rfl, _, _, _, _, d.isStr, rfl, .ty "str", hd.tyx, d.kstr, _, rfl, ?_⟩
    have k0 := k H (Same.refl H)
    cases hd with
    | i m => exact iteF ⟨_, rfl, _, _, _, _, false, rfl, .ty "tuple", .base (.int m), kit_ty (by decide +kernel), _, rfl, iteT k0⟩
    | o => exact iteF ⟨_, rfl, _, _, _, _, false, rfl, .ty "tuple", .base .non, kit_ty (by decide +kernel), _, rfl, iteT k0⟩
    | @s z hz =>
      have hl := hz.2
      have e0 : (D.s z).isKd = (decide (1 ≤ z.length) && decide (z.length ≤ 8) && z.cps.toList.all fun c => decide (97 ≤ c) && decide (c ≤ 122)) := nsig_ty rfl
      rw [e0] at k k0
      refine iteT ⟨_, rfl, _, rfl, by rw [sizeLine_eq]; omega, _, _, rfl, rfl, _, rfl, ?_⟩
      by_cases c1 : 1 ≤ z.length
      · rw [decide_eq_true (show (0 : Int) < (z.length : Int) by omega)]
        refine iteT ⟨_, _, rfl, rfl, _, rfl, ?_⟩
        by_cases c2 : z.length ≤ 8
        · rw [decide_eq_true (show (z.length : Int) < 9 by omega)]
          refine iteT ⟨_, rfl, _, rfl, fun W hW => ?_⟩
          rw [decide_eq_true c1, decide_eq_true c2, Bool.true_and, Bool.true_and] at k
          refine lc_it walk_str (fun i H' => H' = upd H W (.lst ((z.cps.toList.take i).map fun c => V.bl (decide (c ∈ abc.cps.toList))))) (by rw [List.take_zero]; rfl) (fun _ _ _ _ => trivial) ?_ ?_
          · rintro i x H' H2 hi rfl ⟨rfl, c, hc, rfl⟩
            have hc' : z.cps.toList[i]? = some c := by rw [Array.getElem?_toList]; exact hc
            refine ⟨rfl, _, rfl, c, abc, rfl, rfl, _, upd_same, ?_, ?_⟩
            · rw [List.length_map, List.length_take, sizeLine_eq]
              have : z.cps.size ≤ 100 := hl
              omega
            · rw [upd_upd, List.take_add_one, hc', List.map_append]
              rfl
          · rintro H' rfl
            have lz : z.cps.size = z.cps.toList.length := by simp
            refine ⟨_, z.cps.toList.map fun c => decide (c ∈ abc.cps.toList), rfl, SqL.of (by rw [upd_same, lz, List.take_length, List.map_map]; rfl), ?_⟩
            have e : (z.cps.toList.map fun c => decide (c ∈ abc.cps.toList)).all id = z.cps.toList.all fun c => decide (97 ≤ c) && decide (c ≤ 122) := by
              rw [List.all_map]
              congr 1
              funext c
              exact abc_iff c
            rw [e]
            exact k _ (same_upd hW)
        · rw [decide_eq_false (show ¬ (z.length : Int) < 9 by omega)]
          rw [decide_eq_false c2, Bool.and_false, Bool.false_and] at k0
          exact iteF k0
      · rw [decide_eq_false (show ¬ (0 : Int) < (z.length : Int) by omega)]
        rw [decide_eq_false c1, Bool.false_and, Bool.false_and] at k0
        exact iteF ⟨_, rfl, iteF k0⟩
    | @t p xs ds e h =>
      have hl := h.length
      refine iteF ⟨_, rfl, _, _, _, _, true, rfl, .ty "tuple", .base (.tup e), kit_ty (by decide +kernel), _, rfl, iteF ⟨_, rfl, p, xs, rfl, .inr (SqT.of e), rfl, ?_⟩⟩
      by_cases c : xs.length = 3
      · refine ⟨_, congrArg (fun b => V.bl (!b)) (decide_eq_true (show V.int (xs.length : Int) = V.int 3 by rw [c]; rfl)), iteF ?_⟩
        rcases ds with _ | ⟨a0, _ | ⟨a1, _ | ⟨a2, _ | ⟨a3, ds⟩⟩⟩⟩
        · rw [hl] at c; simp at c
        · rw [hl] at c; simp at c
        · rw [hl] at c; simp at c
        · cases h with
          | @cons x0 _ _ _ h0 h => cases h with
            | @cons x1 _ _ _ h1 h => cases h with
              | @cons x2 _ _ _ h2 h =>
                cases h
                refine ⟨_, rfl, p, _, _, _, rfl, rfl, SqT.of e, atI_nat (j := 0) rfl, _, _, _, _, a0.isStr, rfl, .ty "str", h0.tyx, a0.kstr, _, rfl, ?_⟩
                cases ha : a0.isStr with
                | false =>
                  have e1 : (D.t [a0, a1, a2]).isKd = false := by
                    cases ek : (D.t [a0, a1, a2]).isKd with
                    | false => rfl
                    | true =>
                      obtain ⟨g, a, b, eq⟩ := kd_t ek
                      injection eq with eq _
                      rw [eq] at ha
                      cases ha
                  rw [e1] at k0
                  exact iteT k0
                | true =>
                  cases h0 with
                  | i n => cases ha
                  | o => cases ha
                  | t _ _ => cases ha
                  | @s g okg =>
                    rw [kd_3] at k k0
                    have dd : a1.dep + 1 ≤ n ∧ a2.dep + 1 ≤ n := by
                      simp only [D.dep, depAll] at hn
                      omega
                    refine iteF ⟨_, rfl, p, _, _, _, rfl, rfl, SqT.of e, atI_nat (j := 0) rfl, by show 3 ≤ sizeLine; rw [sizeLine_eq]; omega, fun q nq => ⟨q, _, rfl, .inr (SqT.of upd_same), rfl, rfl, ?_⟩⟩
                    rw [if_neg (by decide), sg_in]
                    have s1 := same_upd (o := .tup [.str "over", .str "under", .str "then"]) nq
                    cases sg : (sgOf g).isSome with
                    | false =>
                      rw [sg, Bool.false_and] at k
                      exact ⟨false, rfl, iteF (k _ s1)⟩
                    | true =>
                      rw [sg, Bool.true_and] at k
                      refine ⟨true, rfl, iteT ⟨_, rfl, p, _, _, _, rfl, rfl, SqT.of (s1 _ _ e), atI_nat (j := 1) rfl, hsp x1 a1 _ _ (h1.mono (TK.of_same s1)) dd.1 fun H2 s2 => ⟨_, rfl, ?_⟩⟩⟩
                      cases k1 : a1.isKd with
                      | false =>
                        rw [k1, Bool.false_and] at k
                        exact iteF (k _ (s1.trans s2))
                      | true =>
                        rw [k1, Bool.true_and] at k
                        exact iteT ⟨_, rfl, p, _, _, _, rfl, rfl, SqT.of (s2 _ _ (s1 _ _ e)), atI_nat (j := 2) rfl, hsp x2 a2 _ _ (h2.mono (TK.of_same (s1.trans s2))) dd.2 fun H3 s3 => k _ ((s1.trans s2).trans s3)⟩
        · rw [hl] at c; simp at c
      · refine ⟨_, congrArg (fun b => V.bl (!b)) (decide_eq_false (show ¬ V.int (xs.length : Int) = V.int 3 from fun z => c (by injection z with z; omega))), iteT ?_⟩
        have e1 : (D.t ds).isKd = false := by
          cases ek : (D.t ds).isKd with
          | false => rfl
          | true =>
            obtain ⟨g, a, b, eq⟩ := kd_t ek
            rw [eq] at hl
            exact absurd hl c
        rw [e1] at k0
        exact k0
theorem ok_lisKind {f : Addr} {fd : FuncData} (T : Top K mg "_law_is_kind" sLIsKind pLIsKind f fd) (B : Blt mg) : ∀ n : Nat, FnOk P w K mg base CX0 (1 + n) f fd pLIsKind (spLIsKind n)
  | 0 => lisKind_step T B fn_vac fun _ _ _ _ _ h _ => absurd h (by omega)
  | n + 1 => lisKind_step (m := 1 + n) T B (ok_lisKind T B n) fun v d H Q h1 h2 h3 => ⟨v, d, rfl, h1, by omega, h3⟩
end
end U6

namespace U6
open PySem PySem.Spec PyProof.Rows L2 LamX KT
open PySem.W (Frag)
/-- what the law's own teller tells -/
def LRes (H : Hp) (v : V) : Option Told → Prop
  | none => v = .non
  | some r => ∃ p L us g, v = .ref p ∧ H p = some (.lst [.ref L, g]) ∧ H L = some (.lst us) ∧ Tys H us r.1 ∧ TyAt H g r.2
theorem LRes.same {H H' : Hp} {v : V} {o : Option Told} (h : LRes H v o) (s : Same H H') : LRes H' v o := by
  cases o with
  | none => exact h
  | some r =>
    obtain ⟨p, L, us, g, e, h1, h2, h3, h4⟩ := h
    exact ⟨p, L, us, g, e, s _ _ h1, s _ _ h2, h3.mono (TK.of_same s), h4.mono (TK.of_same s)⟩
theorem LRes.isnon {H : Hp} {v : V} {o : Option Told} (h : LRes H v o) : decide (v = .non) = o.isNone := by
  cases o with
  | none =>
    obtain rfl : v = .non := h
    rfl
  | some r =>
    obtain ⟨p, L, us, g, rfl, _⟩ := h
    rfl
section
variable {P : Program} {w : World} {K : Frag} {mg : Str → Option Value} {base : Heap}
def spLTells (n : Nat) : Sp := fun vs H Q _ => ∃ v d, vs = [v] ∧ DAt H v d ∧ d.dep ≤ n ∧ d.size ≤ 40000 ∧ d.dep ≤ 60 ∧ ∀ v' H', Same H H' → LRes H' v' d.tl → Q v' H'
def spToldMade (n : Nat) : Sp := fun vs H Q _ => ∃ v nm x, vs = [v] ∧ DAt H v (.t [.s nm, x]) ∧ (nm = "over made" ∨ nm = "under made") ∧ (D.t [.s nm, x]).dep ≤ n ∧ (D.t [.s nm, x]).size ≤ 40000 ∧ (D.t [.s nm, x]).dep ≤ 60 ∧ ∀ v' H', Same H H' → LRes H' v' (D.t [.s nm, x]).tl → Q v' H'
def spToldUsed (n : Nat) : Sp := fun vs H Q _ => ∃ v nm a x y, vs = [v] ∧ DAt H v (.t [.s nm, a, x, y]) ∧ placed nm = true ∧ (D.t [.s nm, a, x, y]).dep ≤ n ∧ (D.t [.s nm, a, x, y]).size ≤ 40000 ∧ (D.t [.s nm, a, x, y]).dep ≤ 60 ∧ ∀ v' H', Same H H' → LRes H' v' (D.t [.s nm, a, x, y]).tl → Q v' H'
/-- the promise of the teller at lesser depth -/
def LessT (n : Nat) (sp' : Sp) : Prop := ∀ v d H Q, DAt H v d → d.dep + 1 ≤ n → d.size ≤ 40000 → d.dep ≤ 60 → (∀ v' H', Same H H' → LRes H' v' d.tl → Q v' H') → sp' [v] H Q L2.E0
theorem toldMade_step {f ft : Addr} {fd fdt : FuncData} (T : Top K mg "_law_told_made" sLToldMade pLToldMade f fd) (TT : Top K mg "_law_tells" sLTells pLTells ft fdt) (B : Blt mg) {n m : Nat} {sp' : Sp} (GP : FnOk P w K mg base CX0 m ft fdt pLTells sp') (hsp : LessT n sp') :
    FnOk P w K mg base CX0 (m + 1) f fd pLToldMade (spToldMade n) := by
  refine T.F.ok scLToldMade (fun vs H Q E h => ?_) (fun cdv A outer s H vs Q E hr h => ?_)
  · obtain ⟨_, _, _, rfl, _⟩ := h
    rfl
  · obtain ⟨v, nm, x, rfl, hd, hnm, hn, hz, h60, k⟩ := h
    refine ⟨_, (pss_cons (ps_set (i := 1) scLToldMade.nd rfl (Or.inl rfl) (pe_call GP hr rfl TT.g TT.F.kp TT.b .nil pass0 (pa_cons (pe_ix ix_tup (pv 0) pe_int (fun _ _ => rfl)) pa_nil)))
      (pss_cons (ps_if (PW.pt (pw_or (pt_cmpR op_isN (pv 1) pe_non (nomark _)) (pw_or1 (pt_cmpR op_lt (pe_callB call_len_seq (by rfl) B.len PySem.boot_len (pa_cons (pe_ix ix_list (pv 1) pe_int (fun _ _ => rfl)) pa_nil)) pe_int (nomark _))))) (pss_one (ps_ret pe_non)) pss_nil)
      (pss_cons (ps_asg (pv 1) (pg_lst (by rfl) (pgs_cons (pg_name (i := 2) scLToldMade.nd rfl (Or.inl rfl)) (pgs_cons (pg_name (i := 3) scLToldMade.nd rfl (Or.inl rfl)) pgs_nil))))
      (pss_one (ps_ret (pe_ifExp (pt_cmpR op_eq (pe_ix ix_tup (pv 0) pe_int (fun _ _ => rfl)) pe_str (nomark _))
        (pe_lst (pa_cons (pe_slice sl_list (pv 2) po_none (po_some (pe_un un_neg pe_int))) (pa_cons (pe_tup (pa_cons pe_str (pa_cons (pv 3) (pa_cons (pe_ix ix_list (pv 2) (pe_un un_neg pe_int) (fun _ _ => rfl)) pa_nil)))) pa_nil)))
        (pe_lst (pa_cons (pe_slice sl_list (pv 2) (po_some pe_int) po_none) (pa_cons (pe_tup (pa_cons pe_str (pa_cons (pe_ix ix_list (pv 2) pe_int (fun _ _ => rfl)) (pa_cons (pv 3) pa_nil)))) pa_nil))))))))), ?_⟩
    have dx : x.dep + 1 ≤ n ∧ x.dep ≤ 60 ∧ x.size ≤ 40000 := by
      simp only [D.dep, depAll, D.size, sizeAll] at hn h60 hz
      omega
    cases hd with
    | @t p xs _ e h =>
      cases h with
      | cons h0 h => cases h with
        | @cons vx _ _ _ h1 h =>
          cases h
          cases h0
          refine ⟨_, rfl, p, _, _, _, rfl, rfl, SqT.of e, atI_nat (j := 1) rfl, hsp vx x _ _ h1 dx.1 dx.2.2 dx.2.1 fun v1 H1 s1 r1 => ⟨_, rfl, rfl, _, rfl, ?_⟩⟩
          rw [r1.isnon]
          cases ex : x.tl with
          | none =>
            have et : (D.t [.s nm, x]).tl = none := by
              rcases hnm with rfl | rfl <;> simp [D.tl, tellOf, tlAll, ex]
            rw [et] at k
            exact iteT (k _ H1 s1 rfl)
          | some r =>
            rw [ex] at r1
            obtain ⟨row, goal⟩ := r
            obtain ⟨q, M, ms, g, rfl, eq, eM, hT, hg⟩ := r1
            have hT : Tys H1 ms row := hT
            have hg : TyAt H1 g goal := hg
            have lT := hT.length
            refine iteF ⟨_, rfl, q, _, _, _, rfl, rfl, SqL.of eq, atI_nat (j := 0) rfl, M, ms, rfl, .inl (SqL.of eM), _, _, rfl, rfl, _, rfl, ?_⟩
            have lb : row.length ≤ 40000 := by
              have := (tl_bd x.size x _ (Nat.le_refl _) ex).1
              have q9 : row.length ≤ x.size := this
              omega
            by_cases c : row.length < 2
            · rw [decide_eq_true (show (ms.length : Int) < 2 by rw [lT]; exact Int.ofNat_lt.mpr c)]
              have et : (D.t [.s nm, x]).tl = none := by
                have em : madeU (row, goal) = none := by
                  rcases row with _ | ⟨a, _ | ⟨b, r⟩⟩
                  · rfl
                  · rfl
                  · simp at c; omega
                rcases hnm with rfl | rfl
                · simp [D.tl, tellOf, tlAll, ex, madeO, c]
                · simp [D.tl, tellOf, tlAll, ex, em]
              rw [et] at k
              exact iteT (k _ H1 s1 rfl)
            · rw [decide_eq_false (show ¬ (ms.length : Int) < 2 by rw [lT]; intro z; exact c (Int.ofNat_lt.mp z))]
              refine iteF ⟨_, rfl, q, _, rfl, SqL.of eq, rfl, _, _, rfl, _, _, rfl, rfl, ?_⟩
              refine ⟨_, rfl, p, _, _, _, rfl, rfl, SqT.of (s1 _ _ e), atI_nat (j := 0) rfl, rfl, _, rfl, ?_⟩
              rcases hnm with rfl | rfl
              · obtain ⟨a, ea, ta⟩ := tys_last hT (by omega)
                refine iteT ⟨_, rfl, _, rfl, _, rfl, M, ms, rfl, SqL.of eM, fun N nN => ?_⟩
                have e1 : cutV ms none (some (-1)) = ms.dropLast := cutV_last ms
                rw [e1]
                have s2 := same_upd (o := .lst ms.dropLast) nN
                refine ⟨_, rfl, _, rfl, _, rfl, M, _, _, a, rfl, rfl, SqL.of (s2 _ _ eM), atI_last ea, by show 3 ≤ sizeLine; rw [sizeLine_eq]; omega, fun q1 n1 => ⟨by show 2 ≤ sizeLine; rw [sizeLine_eq]; omega, fun q2 n2 => ?_⟩⟩
                have s3 := same_upd (o := .tup [.str "over", g, a]) n1
                have s4 := same_upd (o := .lst [.ref N, .ref q1]) n2
                have s24 := (s2.trans s3).trans s4
                refine k _ _ (s1.trans s24) ?_
                rw [tl_of (.om ex (r := (row.dropLast, .n .ov goal (row.getLastD (.w "")))) (by simp [madeO, c]))]
                exact ⟨q2, N, ms.dropLast, .ref q1, rfl, upd_same, (s3.trans s4) _ _ upd_same, hT.dropLast.mono (TK.of_same s24), .n (s4 _ _ upd_same) (hg.mono (TK.of_same s24)) (ta.mono (TK.of_same s24))⟩
              · rcases row with _ | ⟨a, _ | ⟨b, row⟩⟩
                · simp at c
                · simp at c
                · cases hT with
                  | @cons va _ ms _ ta hT =>
                    refine iteF ⟨_, rfl, _, rfl, M, _, rfl, SqL.of eM, fun N nN => ?_⟩
                    have e1 : cutV (va :: ms) (some 1) none = ms := cutV_from (b := 1)
                    rw [e1]
                    have s2 := same_upd (o := .lst ms) nN
                    refine ⟨_, rfl, M, _, _, va, rfl, rfl, SqL.of (s2 _ _ eM), atI_nat (j := 0) rfl, _, rfl, by show 3 ≤ sizeLine; rw [sizeLine_eq]; omega, fun q1 n1 => ⟨by show 2 ≤ sizeLine; rw [sizeLine_eq]; omega, fun q2 n2 => ?_⟩⟩
                    have s3 := same_upd (o := .tup [.str "under", va, g]) n1
                    have s4 := same_upd (o := .lst [.ref N, .ref q1]) n2
                    have s24 := (s2.trans s3).trans s4
                    refine k _ _ (s1.trans s24) ?_
                    rw [tl_of (.um ex (r := (b :: row, .n .un a goal)) rfl)]
                    exact ⟨q2, N, ms, .ref q1, rfl, upd_same, (s3.trans s4) _ _ upd_same, hT.mono (TK.of_same s24), .n (s4 _ _ upd_same) (ta.mono (TK.of_same s24)) (hg.mono (TK.of_same s24))⟩
end
end U6

namespace U6
open PySem PySem.Spec PyProof.Rows L2 LamX KT
open PySem.W (Frag)
theorem placed_names {nm : Str} (h : placed nm = true) : nm = "over used" ∨ nm = "under used" ∨ nm = "cut" := by
  unfold placed at h
  rw [Bool.or_eq_true, Bool.or_eq_true, decide_eq_true_eq, decide_eq_true_eq, decide_eq_true_eq] at h
  rcases h with (e | e) | e
  · exact .inl e
  · exact .inr (.inl e)
  · exact .inr (.inr e)
/-- what comes of a type used at a place -/
def lateOf (nm : Str) (k : Ty) (x : Told) : List Ty := if nm = "over used" then [.n .ov k x.2] ++ x.1 else if nm = "under used" then x.1 ++ [.n .un x.2 k] else x.1
theorem usedAt_late {nm : Str} (h : placed nm = true) {n : Nat} {x y : Told} {k : Ty} (hk : y.1[n]? = some k) (hc : nm = "cut" → k = x.2) : usedAt nm n x y = some (y.1.take n ++ lateOf nm k x ++ y.1.drop (n + 1), y.2) := by
  rcases placed_names h with rfl | rfl | rfl
  · simp [usedAt, hk, lateOf]
  · simp [usedAt, hk, lateOf]
  · simp [usedAt, hk, lateOf, hc rfl]
section
variable {P : Program} {w : World} {K : Frag} {mg : Str → Option Value} {base : Heap}
theorem toldUsed_step {f ft fp : Addr} {fd fdt fdp : FuncData} (T : Top K mg "_law_told_used" sLToldUsed pLToldUsed f fd) (TT : Top K mg "_law_tells" sLTells pLTells ft fdt) (TP : Top K mg "_law_is_place" sLIsPlace pLIsPlace fp fdp) (B : Blt mg) {n m : Nat} {sp' : Sp} (GP : FnOk P w K mg base CX0 m ft fdt pLTells sp') (hm : 1 ≤ m) (hsp : LessT n sp') :
    FnOk P w K mg base CX0 (m + 1) f fd pLToldUsed (spToldUsed n) := by
  have GI : FnOk P w K mg base CX0 1 fp fdp pLIsPlace spIsPlace := ok_isPlace TP B
  refine T.F.ok scLToldUsed (fun vs H Q E h => ?_) (fun cdv A outer s H vs Q E hr h => ?_)
  · obtain ⟨_, _, _, _, _, rfl, _⟩ := h
    rfl
  · obtain ⟨v, nm, a, x, y, rfl, hd, hpl, hn, hz, h60, k⟩ := h
    have hr1 : Room 1 _ := hr.mono hm
    refine ⟨_, (pss_cons (ps_asg (pe_tup (pa_cons (pe_ix ix_tup (pv 0) pe_int (fun _ _ => rfl)) (pa_cons (pe_ix ix_tup (pv 0) pe_int (fun _ _ => rfl)) (pa_cons (pe_call GP hr rfl TT.g TT.F.kp TT.b .nil pass0 (pa_cons (pe_ix ix_tup (pv 0) pe_int (fun _ _ => rfl)) pa_nil)) (pa_cons (pe_call GP hr rfl TT.g TT.F.kp TT.b .nil pass0 (pa_cons (pe_ix ix_tup (pv 0) pe_int (fun _ _ => rfl)) pa_nil)) pa_nil)))))
        (pg_tup (by rfl) (pgs_cons (pg_name (i := 1) scLToldUsed.nd rfl (Or.inl rfl)) (pgs_cons (pg_name (i := 2) scLToldUsed.nd rfl (Or.inl rfl)) (pgs_cons (pg_name (i := 3) scLToldUsed.nd rfl (Or.inl rfl)) (pgs_cons (pg_name (i := 4) scLToldUsed.nd rfl (Or.inl rfl)) pgs_nil))))))
      (pss_cons (ps_if (PW.pt (pw_or (pt_cmpR op_isN (pv 3) pe_non (nomark _)) (pw_or (pt_cmpR op_isN (pv 4) pe_non (nomark _)) (pw_or1 (pt_not (pt_val (pe_call GI hr1 rfl TP.g TP.F.kp TP.b .nil pass0 (pa_cons (pv 2) (pa_cons (pe_callB call_len_seq (by rfl) B.len PySem.boot_len (pa_cons (pe_ix ix_list (pv 4) pe_int (fun _ _ => rfl)) pa_nil)) pa_nil))))))))) (pss_one (ps_ret pe_non)) pss_nil)
      (pss_cons (ps_par (i := 5) (j := 6) rfl scLToldUsed.nd rfl rfl (by decide) rfl rfl (pa_cons (pe_ix ix_list (pv 4) pe_int (fun _ _ => rfl)) (pa_cons (pe_ix ix_list (pe_ix ix_list (pv 4) pe_int (fun _ _ => rfl)) (pv 2) (fun _ _ => rfl)) pa_nil)) (by rfl))
      (pss_cons (ps_if (PW.pt (pw_and (pt_cmpR op_eq (pv 1) pe_str (nomark _)) (pw_and1 (pt_cmpR (op_neD (hu64 hr)) (pv 6) (pe_ix ix_list (pv 3) pe_int (fun _ _ => rfl)) (nomark _))))) (pss_one (ps_ret pe_non)) pss_nil)
      (pss_cons (ps_set (i := 7) scLToldUsed.nd rfl (Or.inl rfl) (pe_ix ix_list (pv 3) pe_int (fun _ _ => rfl)))
      (pss_cons (ps_if (pt_cmpR op_eq (pv 1) pe_str (nomark _)) (pss_one (ps_set (i := 7) scLToldUsed.nd rfl (Or.inl rfl) (pe_op op_cat (pe_lst (pa_cons (pe_tup (pa_cons pe_str (pa_cons (pv 6) (pa_cons (pe_ix ix_list (pv 3) pe_int (fun _ _ => rfl)) pa_nil)))) pa_nil)) (pv 7)))) pss_nil)
      (pss_cons (ps_if (pt_cmpR op_eq (pv 1) pe_str (nomark _)) (pss_one (ps_set (i := 7) scLToldUsed.nd rfl (Or.inl rfl) (pe_op op_cat (pv 7) (pe_lst (pa_cons (pe_tup (pa_cons pe_str (pa_cons (pe_ix ix_list (pv 3) pe_int (fun _ _ => rfl)) (pa_cons (pv 6) pa_nil)))) pa_nil))))) pss_nil)
      (pss_one (ps_ret (pe_lst (pa_cons (pe_op op_cat (pe_op op_cat (pe_slice sl_list (pv 5) po_none (po_some (pv 2))) (pv 7)) (pe_slice sl_list (pv 5) (po_some (pe_op op_add (pv 2) pe_int)) po_none)) (pa_cons (pe_ix ix_list (pv 4) pe_int (fun _ _ => rfl)) pa_nil)))))))))))), ?_⟩
    have dx : (x.dep + 1 ≤ n ∧ x.dep ≤ 60 ∧ x.size ≤ 40000) ∧ y.dep + 1 ≤ n ∧ y.dep ≤ 60 ∧ y.size ≤ 40000 := by
      simp only [D.dep, depAll, D.size, sizeAll] at hn h60 hz
      omega
    have hnil : x.tl = none ∨ y.tl = none ∨ (∀ p, a = .i p → ∀ ry, y.tl = some ry → p < 0 ∨ ry.1.length ≤ p.toNat) ∨ (∀ p, a ≠ .i p) → (D.t [.s nm, a, x, y]).tl = none := by
      intro hh
      cases ee : (D.t [.s nm, a, x, y]).tl with
      | none => rfl
      | some r =>
        exfalso
        cases tl_inv ee with
        | us c h1 h2 h3 =>
          obtain ⟨hp, kk, ek⟩ := usedAt_p h3
          rcases hh with q | q | q | q
          · rw [q] at h1; cases h1
          · rw [q] at h2; cases h2
          · have l2 := (List.getElem?_eq_some_iff.mp ek).1
            rcases q _ rfl _ h2 with q | q
            · omega
            · omega
          · exact q _ rfl
    cases hd with
    | @t p xs _ e h =>
      cases h with
      | cons h0 h => cases h with
        | @cons va _ _ _ ha h => cases h with
          | @cons vx _ _ _ hx h => cases h with
            | @cons vy _ _ _ hy h =>
              cases h
              cases h0
              refine ⟨_, rfl, p, _, _, _, rfl, rfl, SqT.of e, atI_nat (j := 0) rfl, _, rfl, p, _, _, _, rfl, rfl, SqT.of e, atI_nat (j := 1) rfl, _, rfl, p, _, _, _, rfl, rfl, SqT.of e, atI_nat (j := 2) rfl, hsp vx x _ _ hx dx.1.1 dx.1.2.2 dx.1.2.1 fun v1 H1 s1 r1 => ?_⟩
              refine ⟨_, rfl, p, _, _, _, rfl, rfl, SqT.of (s1 _ _ e), atI_nat (j := 3) rfl, hsp vy y _ _ (hy.mono (TK.of_same s1)) dx.2.1 dx.2.2.2 dx.2.2.1 fun v2 H2 s2 r2 => ⟨by show 4 ≤ sizeLine; rw [sizeLine_eq]; omega, fun q0 nq0 => ?_⟩⟩
              have s3 := same_upd (o := .tup [.str nm, va, v1, v2]) nq0
              refine ⟨q0, _, rfl, SqT.of upd_same, rfl, _, _, rfl, _, _, rfl, _, _, rfl, _, _, rfl, rfl, ?_⟩
              have s13 := (s1.trans s2).trans s3
              have r1' := r1.same (s2.trans s3)
              have r2' := r2.same s3
              have ha' := ha.mono (TK.of_same s13)
              generalize upd H2 q0 (.tup [.str nm, va, v1, v2]) = H3 at s13 r1' r2' ha'
              refine ⟨_, rfl, rfl, _, rfl, ?_⟩
              rw [r1'.isnon]
              cases ex : x.tl with
              | none =>
                rw [hnil (.inl ex)] at k
                exact iteT (k _ H3 s13 rfl)
              | some rx =>
                refine iteF ⟨_, rfl, rfl, _, rfl, ?_⟩
                rw [r2'.isnon]
                cases ey : y.tl with
                | none =>
                  rw [hnil (.inr (.inl ey))] at k
                  exact iteT (k _ H3 s13 rfl)
                | some ry =>
                  rw [ex] at r1'
                  rw [ey] at r2'
                  obtain ⟨row1, g1⟩ := rx
                  obtain ⟨row2, g2⟩ := ry
                  obtain ⟨q1, M1, ms1, vg1, rfl, eq1, eM1, hT1, hg1⟩ := r1'
                  obtain ⟨q2, M2, ms2, vg2, rfl, eq2, eM2, hT2, hg2⟩ := r2'
                  have hT1 : Tys H3 ms1 row1 := hT1
                  have hT2 : Tys H3 ms2 row2 := hT2
                  have hg1 : TyAt H3 vg1 g1 := hg1
                  have hg2 : TyAt H3 vg2 g2 := hg2
                  have lT1 := hT1.length
                  have lT2 := hT2.length
                  have b1 := tl_bd x.size x _ (Nat.le_refl _) ex
                  have b2 := tl_bd y.size y _ (Nat.le_refl _) ey
                  have lb1 : row1.length ≤ 40000 := by have q9 : row1.length ≤ x.size := b1.1; omega
                  have lb2 : row2.length ≤ 40000 := by have q9 : row2.length ≤ y.size := b2.1; omega
                  refine iteF ⟨_, rfl, _, rfl, q2, _, _, _, rfl, rfl, SqL.of eq2, atI_nat (j := 0) rfl, M2, ms2, rfl, .inl (SqL.of eM2), va, a, _, rfl, ha', ?_⟩
                  cases hpb : a.pl (ms2.length : Int) with
                  | false =>
                    have e9 : (D.t [.s nm, a, x, y]).tl = none := by
                      refine hnil ?_
                      cases a with
                      | s z => exact .inr (.inr (.inr fun p z => by cases z))
                      | o => exact .inr (.inr (.inr fun p z => by cases z))
                      | t l => exact .inr (.inr (.inr fun p z => by cases z))
                      | i p =>
                        refine .inr (.inr (.inl fun p' ep ry er => ?_))
                        cases ep
                        rw [ey] at er
                        cases er
                        simp only [D.pl, Bool.and_eq_false_iff, decide_eq_false_iff_not] at hpb
                        show p < 0 ∨ row2.length ≤ p.toNat
                        omega
                    rw [e9] at k
                    exact ⟨_, rfl, iteT (k _ H3 s13 rfl)⟩
                  | true =>
                    obtain ⟨j, rfl, hj⟩ : ∃ j : Nat, a = .i j ∧ j < ms2.length := by
                      cases a with
                      | s z => cases hpb
                      | o => cases hpb
                      | t l => cases hpb
                      | i p =>
                        simp only [D.pl, Bool.and_eq_true, decide_eq_true_eq] at hpb
                        exact ⟨p.toNat, by rw [Int.toNat_of_nonneg hpb.1], by omega⟩
                    cases ha'
                    have ek0 : row2[j]? = some (row2[j]'(by omega)) := List.getElem?_eq_getElem (by omega)
                    generalize row2[j]'(by omega) = kd at ek0
                    have ek : (row2, g2).1[j]? = some kd := ek0
                    obtain ⟨vk, evk, tvk⟩ := hT2.get ek0
                    refine ⟨_, rfl, iteF ⟨_, rfl, q2, _, _, _, rfl, rfl, SqL.of eq2, atI_nat (j := 0) rfl, _, rfl, q2, _, _, _, rfl, rfl, SqL.of eq2, atI_nat (j := 0) rfl, _, rfl, M2, _, _, vk, rfl, rfl, SqL.of eM2, atI_nat evk, _, _, rfl, ?_⟩⟩
                    have sx := Same.refl H3
                    have tvk0 := tvk
                    rcases placed_names hpl with rfl | rfl | rfl
                    · refine ⟨_, rfl, rfl, _, rfl, iteF ?_⟩
                      refine ⟨_, rfl, q1, _, _, _, rfl, rfl, SqL.of eq1, atI_nat (j := 0) rfl, ?_⟩
                      refine ⟨_, rfl, rfl, _, rfl, iteT ?_⟩
                      refine ⟨_, rfl, _, rfl, q1, _, _, _, rfl, rfl, SqL.of eq1, atI_nat (j := 1) rfl, by show 3 ≤ sizeLine; rw [sizeLine_eq]; omega, fun B1 nB => ⟨by show 1 ≤ sizeLine; rw [sizeLine_eq]; omega, fun C1 nC => ?_⟩⟩
                      have sb := same_upd (o := .tup [.str "over", vk, vg1]) nB
                      have sc := same_upd (o := .lst [.ref B1]) nC
                      refine ⟨_, rfl, C1, M1, _, _, rfl, rfl, upd_same, (sb.trans sc) _ _ eM1, by rw [sizeLine_eq]; simp only [List.length_singleton]; omega, fun F1 nF => ?_⟩
                      have sf := same_upd (o := .lst ([.ref B1] ++ ms1)) nF
                      have sx := (sb.trans sc).trans sf
                      have eLt := upd_same (H := upd (upd H3 B1 (.tup [.str "over", vk, vg1])) C1 (.lst [.ref B1])) (a := F1) (o := .lst ([.ref B1] ++ ms1))
                      have tLt : Tys (upd (upd (upd H3 B1 (.tup [.str "over", vk, vg1])) C1 (.lst [.ref B1])) F1 (.lst ([.ref B1] ++ ms1))) ([.ref B1] ++ ms1) (lateOf "over used" kd (row1, g1)) := by
                        have tB := (sc.trans sf) _ _ (upd_same (H := H3) (a := B1) (o := .tup [.str "over", vk, vg1]))
                        exact Tys.append (.cons (.n tB (tvk.mono (TK.of_same sx)) (hg1.mono (TK.of_same sx))) .nil) (hT1.mono (TK.of_same sx))
                      have hcut : ("over used" : Str) = "cut" → kd = (row1, g1).2 := fun z => absurd z (by decide)
                      refine ⟨_, rfl, rfl, _, rfl, iteF ?_⟩
                      refine ⟨_, rfl, _, rfl, _, rfl, M2, ms2, rfl, SqL.of (sx _ _ eM2), fun A1 nA => ?_⟩
                      rw [cutV_take]
                      have s5 := same_upd (o := .lst (ms2.take j)) nA
                      refine ⟨_, rfl, A1, F1, _, _, rfl, rfl, upd_same, s5 _ _ eLt, by rw [List.length_take, sizeLine_eq]; simp only [List.length_append, List.length_singleton]; omega, fun E1 nE => ?_⟩
                      have s6 := same_upd (o := .lst (ms2.take j ++ ([.ref B1] ++ ms1))) nE
                      refine ⟨_, rfl, _, rfl, _, _, rfl, rfl, _, rfl, M2, ms2, rfl, SqL.of (((sx.trans s5).trans s6) _ _ eM2), fun G1 nG => ?_⟩
                      have ec : cutV ms2 (some ((j : Int) + 1)) none = ms2.drop (j + 1) := cutV_from (b := j + 1)
                      rw [ec]
                      have s7 := same_upd (o := .lst (ms2.drop (j + 1))) nG
                      refine ⟨E1, G1, _, _, rfl, rfl, s7 _ _ upd_same, upd_same, by rw [List.length_append, List.length_take, List.length_drop, sizeLine_eq]; simp only [List.length_append, List.length_singleton]; omega, fun N nN => ?_⟩
                      have s8 := same_upd (o := .lst (ms2.take j ++ ([.ref B1] ++ ms1) ++ ms2.drop (j + 1))) nN
                      have s58 := ((s5.trans s6).trans s7).trans s8
                      refine ⟨_, rfl, q2, _, _, _, rfl, rfl, SqL.of ((sx.trans s58) _ _ eq2), atI_nat (j := 1) rfl, by show 2 ≤ sizeLine; rw [sizeLine_eq]; omega, fun qq nqq => ?_⟩
                      have s9 := same_upd (o := .lst [.ref N, vg2]) nqq
                      have s59 := s58.trans s9
                      refine k _ _ (s13.trans (sx.trans s59)) ?_
                      rw [tl_of (.us hpl ex ey (usedAt_late hpl (n := j) ek hcut))]
                      exact ⟨qq, N, _, vg2, rfl, upd_same, s9 _ _ upd_same, (((hT2.take j).mono (TK.of_same (sx.trans s59))).append ((tLt).mono (TK.of_same s59))).append ((hT2.drop (j + 1)).mono (TK.of_same (sx.trans s59))), hg2.mono (TK.of_same (sx.trans s59))⟩
                    · refine ⟨_, rfl, rfl, _, rfl, iteF ?_⟩
                      refine ⟨_, rfl, q1, _, _, _, rfl, rfl, SqL.of eq1, atI_nat (j := 0) rfl, ?_⟩
                      refine ⟨_, rfl, rfl, _, rfl, iteF ?_⟩
                      refine ⟨_, rfl, rfl, _, rfl, iteT ?_⟩
                      refine ⟨_, rfl, _, rfl, q1, _, _, _, rfl, rfl, SqL.of eq1, atI_nat (j := 1) rfl, _, rfl, by show 3 ≤ sizeLine; rw [sizeLine_eq]; omega, fun B1 nB => ⟨by show 1 ≤ sizeLine; rw [sizeLine_eq]; omega, fun C1 nC => ?_⟩⟩
                      have sb := same_upd (o := .tup [.str "under", vg1, vk]) nB
                      have sc := same_upd (o := .lst [.ref B1]) nC
                      refine ⟨M1, C1, _, _, rfl, rfl, (sb.trans sc) _ _ eM1, upd_same, by rw [sizeLine_eq]; simp only [List.length_singleton]; omega, fun F1 nF => ?_⟩
                      have sf := same_upd (o := .lst (ms1 ++ [.ref B1])) nF
                      have sx := (sb.trans sc).trans sf
                      have eLt := upd_same (H := upd (upd H3 B1 (.tup [.str "under", vg1, vk])) C1 (.lst [.ref B1])) (a := F1) (o := .lst (ms1 ++ [.ref B1]))
                      have tLt : Tys (upd (upd (upd H3 B1 (.tup [.str "under", vg1, vk])) C1 (.lst [.ref B1])) F1 (.lst (ms1 ++ [.ref B1]))) (ms1 ++ [.ref B1]) (lateOf "under used" kd (row1, g1)) := by
                        have tB := (sc.trans sf) _ _ (upd_same (H := H3) (a := B1) (o := .tup [.str "under", vg1, vk]))
                        have ee : lateOf "under used" kd (row1, g1) = row1 ++ [.n .un g1 kd] := by simp [lateOf]
                        rw [ee]
                        exact (hT1.mono (TK.of_same sx)).append (.cons (.n tB (hg1.mono (TK.of_same sx)) (tvk.mono (TK.of_same sx))) .nil)
                      have hcut : ("under used" : Str) = "cut" → kd = (row1, g1).2 := fun z => absurd z (by decide)
                      refine ⟨_, rfl, _, rfl, _, rfl, M2, ms2, rfl, SqL.of (sx _ _ eM2), fun A1 nA => ?_⟩
                      rw [cutV_take]
                      have s5 := same_upd (o := .lst (ms2.take j)) nA
                      refine ⟨_, rfl, A1, F1, _, _, rfl, rfl, upd_same, s5 _ _ eLt, by rw [List.length_take, sizeLine_eq]; simp only [List.length_append, List.length_singleton]; omega, fun E1 nE => ?_⟩
                      have s6 := same_upd (o := .lst (ms2.take j ++ (ms1 ++ [.ref B1]))) nE
                      refine ⟨_, rfl, _, rfl, _, _, rfl, rfl, _, rfl, M2, ms2, rfl, SqL.of (((sx.trans s5).trans s6) _ _ eM2), fun G1 nG => ?_⟩
                      have ec : cutV ms2 (some ((j : Int) + 1)) none = ms2.drop (j + 1) := cutV_from (b := j + 1)
                      rw [ec]
                      have s7 := same_upd (o := .lst (ms2.drop (j + 1))) nG
                      refine ⟨E1, G1, _, _, rfl, rfl, s7 _ _ upd_same, upd_same, by rw [List.length_append, List.length_take, List.length_drop, sizeLine_eq]; simp only [List.length_append, List.length_singleton]; omega, fun N nN => ?_⟩
                      have s8 := same_upd (o := .lst (ms2.take j ++ (ms1 ++ [.ref B1]) ++ ms2.drop (j + 1))) nN
                      have s58 := ((s5.trans s6).trans s7).trans s8
                      refine ⟨_, rfl, q2, _, _, _, rfl, rfl, SqL.of ((sx.trans s58) _ _ eq2), atI_nat (j := 1) rfl, by show 2 ≤ sizeLine; rw [sizeLine_eq]; omega, fun qq nqq => ?_⟩
                      have s9 := same_upd (o := .lst [.ref N, vg2]) nqq
                      have s59 := s58.trans s9
                      refine k _ _ (s13.trans (sx.trans s59)) ?_
                      rw [tl_of (.us hpl ex ey (usedAt_late hpl (n := j) ek hcut))]
                      exact ⟨qq, N, _, vg2, rfl, upd_same, s9 _ _ upd_same, (((hT2.take j).mono (TK.of_same (sx.trans s59))).append ((tLt).mono (TK.of_same s59))).append ((hT2.drop (j + 1)).mono (TK.of_same (sx.trans s59))), hg2.mono (TK.of_same (sx.trans s59))⟩
                    · have dk := (DAt.py (K := K) tvk.d).1
                      have dg := (DAt.py (K := K) hg1.d).1
                      refine ⟨_, rfl, rfl, _, rfl, iteT ?_⟩
                      refine ⟨_, rfl, _, rfl, q1, _, _, _, rfl, rfl, SqL.of eq1, atI_nat (j := 1) rfl, kd.d.py, g1.d.py, dk, dg, DAt.shaped (K := K) tvk.d (by have := b2.2.1 kd (List.mem_of_getElem? ek); omega), DAt.shaped (K := K) hg1.d (by have q : g1.d.dep ≤ x.dep := b1.2.2; omega), _, rfl, ?_⟩
                      rw [eqv_ty]
                      by_cases ce : kd = g1
                      · rw [decide_eq_true ce]
                        refine iteF ?_
                        refine ⟨_, rfl, q1, _, _, _, rfl, rfl, SqL.of eq1, atI_nat (j := 0) rfl, ?_⟩
                        refine ⟨_, rfl, rfl, _, rfl, iteF ⟨_, rfl, rfl, _, rfl, iteF ?_⟩⟩
                        have hcut : ("cut" : Str) = "cut" → kd = (row1, g1).2 := fun _ => ce
                        have tLt : Tys H3 ms1 (lateOf "cut" kd (row1, g1)) := by
                          have ee : lateOf "cut" kd (row1, g1) = row1 := by simp [lateOf]
                          rw [ee]
                          exact hT1
                        refine ⟨_, rfl, _, rfl, _, rfl, M2, ms2, rfl, SqL.of (sx _ _ eM2), fun A1 nA => ?_⟩
                        rw [cutV_take]
                        have s5 := same_upd (o := .lst (ms2.take j)) nA
                        refine ⟨_, rfl, A1, M1, _, _, rfl, rfl, upd_same, s5 _ _ eM1, by rw [List.length_take, sizeLine_eq]; omega, fun E1 nE => ?_⟩
                        have s6 := same_upd (o := .lst (ms2.take j ++ ms1)) nE
                        refine ⟨_, rfl, _, rfl, _, _, rfl, rfl, _, rfl, M2, ms2, rfl, SqL.of (((sx.trans s5).trans s6) _ _ eM2), fun G1 nG => ?_⟩
                        have ec : cutV ms2 (some ((j : Int) + 1)) none = ms2.drop (j + 1) := cutV_from (b := j + 1)
                        rw [ec]
                        have s7 := same_upd (o := .lst (ms2.drop (j + 1))) nG
                        refine ⟨E1, G1, _, _, rfl, rfl, s7 _ _ upd_same, upd_same, by rw [List.length_append, List.length_take, List.length_drop, sizeLine_eq]; omega, fun N nN => ?_⟩
                        have s8 := same_upd (o := .lst (ms2.take j ++ ms1 ++ ms2.drop (j + 1))) nN
                        have s58 := ((s5.trans s6).trans s7).trans s8
                        refine ⟨_, rfl, q2, _, _, _, rfl, rfl, SqL.of ((sx.trans s58) _ _ eq2), atI_nat (j := 1) rfl, by show 2 ≤ sizeLine; rw [sizeLine_eq]; omega, fun qq nqq => ?_⟩
                        have s9 := same_upd (o := .lst [.ref N, vg2]) nqq
                        have s59 := s58.trans s9
                        refine k _ _ (s13.trans (sx.trans s59)) ?_
                        rw [tl_of (.us hpl ex ey (usedAt_late hpl (n := j) ek hcut))]
                        exact ⟨qq, N, _, vg2, rfl, upd_same, s9 _ _ upd_same, (((hT2.take j).mono (TK.of_same (sx.trans s59))).append ((tLt).mono (TK.of_same s59))).append ((hT2.drop (j + 1)).mono (TK.of_same (sx.trans s59))), hg2.mono (TK.of_same (sx.trans s59))⟩
                      · rw [decide_eq_false ce]
                        have e9 : (D.t [.s "cut", .i j, x, y]).tl = none := by
                          simp [D.tl, tellOf, tlAll, ex, ey, both, placed, usedAt, ek0, ce]
                        rw [e9] at k
                        exact iteT (k _ H3 s13 rfl)
end
end U6

namespace U6
open PySem PySem.Spec PyProof.Rows L2 LamX KT
open PySem.W (Frag)
theorem tl_nstr {a : D} {r : List D} (h : a.isStr = false) : (D.t (a :: r)).tl = none := by
  cases a with
  | s z => cases h
  | i n => rcases r with _ | ⟨a, _ | ⟨b, _ | ⟨c, _ | ⟨d, r⟩⟩⟩⟩ <;> simp [D.tl, tlAll, tellOf]
  | o => rcases r with _ | ⟨a, _ | ⟨b, _ | ⟨c, _ | ⟨d, r⟩⟩⟩⟩ <;> simp [D.tl, tlAll, tellOf]
  | t l => rcases r with _ | ⟨a, _ | ⟨b, _ | ⟨c, _ | ⟨d, r⟩⟩⟩⟩ <;> simp [D.tl, tlAll, tellOf]
theorem tl_len {nm : Str} {r : List D} {o : Told} (h : (D.t (.s nm :: r)).tl = some o) : (nm = "is" ∧ r.length = 1) ∨ (nm = "over made" ∧ r.length = 1) ∨ (nm = "under made" ∧ r.length = 1) ∨ (nm = "then made" ∧ r.length = 2) ∨ (nm = "then used" ∧ r.length = 2) ∨ (placed nm = true ∧ r.length = 3) := by
  cases tl_inv h with
  | is _ => exact .inl ⟨rfl, rfl⟩
  | om _ _ => exact .inr (.inl ⟨rfl, rfl⟩)
  | um _ _ => exact .inr (.inr (.inl ⟨rfl, rfl⟩))
  | tm _ _ => exact .inr (.inr (.inr (.inl ⟨rfl, rfl⟩)))
  | tu _ _ => exact .inr (.inr (.inr (.inr (.inl ⟨rfl, rfl⟩))))
  | us c _ _ _ => exact .inr (.inr (.inr (.inr (.inr ⟨c, rfl⟩))))
theorem none_of {α : Type} {o : Option α} (h : ∀ r, o = some r → False) : o = none := by
  cases o with
  | none => rfl
  | some r => exact (h r rfl).elim
theorem strEq (a b : Str) : decide (V.str a = V.str b) = decide (a = b) := by
  rw [decide_eq_decide]
  exact ⟨fun z => by injection z, fun z => by rw [z]⟩
theorem in2 (nm : Str) : (if false = true then !inV (V.str nm) [V.str "over made", .str "under made"] else inV (V.str nm) [V.str "over made", .str "under made"]) = decide (nm = "over made" ∨ nm = "under made") := by
  rw [if_neg (by decide)]
  have e := inV_str nm [("over made" : Str), "under made"]
  refine e.trans ?_
  rw [decide_eq_decide]
  simp
theorem in3 (nm : Str) : (if false = true then !inV (V.str nm) [V.str "over used", .str "under used", .str "cut"] else inV (V.str nm) [V.str "over used", .str "under used", .str "cut"]) = decide (placed nm = true) := by
  rw [if_neg (by decide)]
  have e := inV_str nm [("over used" : Str), "under used", "cut"]
  refine e.trans ?_
  rw [decide_eq_decide]
  unfold placed
  simp [or_assoc]
section
variable {P : Program} {w : World} {K : Frag} {mg : Str → Option Value} {base : Heap}
theorem tells_step {f fk fm fu fp : Addr} {fd fdk fdm fdu fdp : FuncData} (T : Top K mg "_law_tells" sLTells pLTells f fd) (TKd : Top K mg "_law_is_kind" sLIsKind pLIsKind fk fdk) (TM : Top K mg "_law_told_made" sLToldMade pLToldMade fm fdm) (TU : Top K mg "_law_told_used" sLToldUsed pLToldUsed fu fdu) (TP : Top K mg "_law_is_place" sLIsPlace pLIsPlace fp fdp) (B : Blt mg) {n m : Nat} {sp' : Sp}
    (GP : FnOk P w K mg base CX0 m f fd pLTells sp') (hm : 1 ≤ m) (hsp : LessT n sp') (GM : FnOk P w K mg base CX0 m fm fdm pLToldMade (spToldMade n)) (GU : FnOk P w K mg base CX0 m fu fdu pLToldUsed (spToldUsed n)) (GK : FnOk P w K mg base CX0 m fk fdk pLIsKind (spLIsKind n)) : FnOk P w K mg base CX0 (m + 1) f fd pLTells (spLTells n) := by
  have GI : FnOk P w K mg base CX0 1 fp fdp pLIsPlace spIsPlace := ok_isPlace TP B
  refine T.F.ok scLTells (fun vs H Q E h => ?_) (fun cdv A outer s H vs Q E hr h => ?_)
  · obtain ⟨_, _, rfl, _⟩ := h
    rfl
  · obtain ⟨v, d, rfl, hd, hn, hz, h60, k⟩ := h
    have hr1 : Room 1 _ := hr.mono hm
    refine ⟨_, (pss_cons (ps_if (PW.pt (pw_or (pt_not (pt_val (pe_callB call_isi (by rfl) B.isi (by decide +kernel) (pa_cons (pv 0) (pa_cons (pe_bltn (v := .ty "tuple") (by rfl) B.tuple (by decide +kernel) rfl) pa_nil))))) (pw_or (pt_cmpR (op_eqD (hu64 hr)) (pv 0) (pe_tup pa_nil) (nomark _)) (pw_or1 (pt_not (pt_val (pe_callB call_isi (by rfl) B.isi (by decide +kernel) (pa_cons (pe_ix ix_tup (pv 0) pe_int (fun _ _ => rfl)) (pa_cons (pe_bltn (v := .ty "str") (by rfl) B.str_ (by decide +kernel) rfl) pa_nil))))))))) (pss_one (ps_ret pe_non)) pss_nil)
      (pss_cons (ps_set (i := 1) scLTells.nd rfl (Or.inl rfl) (pe_ix ix_tup (pv 0) pe_int (fun _ _ => rfl)))
      (pss_cons (ps_if (pt_cmpR op_eq (pv 1) pe_str (nomark _)) (pss_one (ps_ret (pe_ifExp (PW.pt (pw_and (pt_cmpR op_eq (pe_callB call_len_seq (by rfl) B.len PySem.boot_len (pa_cons (pv 0) pa_nil)) pe_int (nomark _)) (pw_and1 (pt_val (pe_call GK hr rfl TKd.g TKd.F.kp TKd.b .nil pass0 (pa_cons (pe_ix ix_tup (pv 0) pe_int (fun _ _ => rfl)) pa_nil)))))) (pe_lst (pa_cons (pe_lst (pa_cons (pe_ix ix_tup (pv 0) pe_int (fun _ _ => rfl)) pa_nil)) (pa_cons (pe_ix ix_tup (pv 0) pe_int (fun _ _ => rfl)) pa_nil))) pe_non))) pss_nil)
      (pss_cons (ps_if (PW.pt (pw_and (pt_cmpR op_in_seq (pv 1) (pe_tup (pa_cons pe_str (pa_cons pe_str pa_nil))) (by rfl)) (pw_and1 (pt_cmpR op_eq (pe_callB call_len_seq (by rfl) B.len PySem.boot_len (pa_cons (pv 0) pa_nil)) pe_int (nomark _))))) (pss_one (ps_ret (pe_call GM hr rfl TM.g TM.F.kp TM.b .nil pass0 (pa_cons (pv 0) pa_nil)))) pss_nil)
      (pss_cons (ps_if (PW.pt (pw_and (pt_cmpR op_in_seq (pv 1) (pe_tup (pa_cons pe_str (pa_cons pe_str (pa_cons pe_str pa_nil)))) (by rfl)) (pw_and1 (pt_cmpR op_eq (pe_callB call_len_seq (by rfl) B.len PySem.boot_len (pa_cons (pv 0) pa_nil)) pe_int (nomark _))))) (pss_one (ps_ret (pe_call GU hr rfl TU.g TU.F.kp TU.b .nil pass0 (pa_cons (pv 0) pa_nil)))) pss_nil)
      (pss_cons (ps_if (PW.pt (pw_and (pt_cmpR op_eq (pv 1) pe_str (nomark _)) (pw_and1 (pt_cmpR op_eq (pe_callB call_len_seq (by rfl) B.len PySem.boot_len (pa_cons (pv 0) pa_nil)) pe_int (nomark _))))) (pss_cons (ps_par (i := 2) (j := 3) rfl scLTells.nd rfl rfl (by decide) rfl rfl (pa_cons (pe_call GP hr rfl T.g T.F.kp T.b .nil pass0 (pa_cons (pe_ix ix_tup (pv 0) pe_int (fun _ _ => rfl)) pa_nil)) (pa_cons (pe_call GP hr rfl T.g T.F.kp T.b .nil pass0 (pa_cons (pe_ix ix_tup (pv 0) pe_int (fun _ _ => rfl)) pa_nil)) pa_nil)) (by rfl))
      (pss_one (ps_ret (pe_ifExp (PW.pt (pw_or (pt_cmpR op_isN (pv 2) pe_non (nomark _)) (pw_or1 (pt_cmpR op_isN (pv 3) pe_non (nomark _))))) pe_non (pe_lst (pa_cons (pe_op op_cat (pe_ix ix_list (pv 2) pe_int (fun _ _ => rfl)) (pe_ix ix_list (pv 3) pe_int (fun _ _ => rfl))) (pa_cons (pe_tup (pa_cons pe_str (pa_cons (pe_ix ix_list (pv 2) pe_int (fun _ _ => rfl)) (pa_cons (pe_ix ix_list (pv 3) pe_int (fun _ _ => rfl)) pa_nil)))) pa_nil))))))) pss_nil)
      (pss_cons (ps_if (PW.pt (pw_or (pt_cmpR op_ne (pv 1) pe_str (nomark _)) (pw_or1 (pt_cmpR op_ne (pe_callB call_len_seq (by rfl) B.len PySem.boot_len (pa_cons (pv 0) pa_nil)) pe_int (nomark _))))) (pss_one (ps_ret pe_non)) pss_nil)
      (pss_cons (ps_set (i := 4) scLTells.nd rfl (Or.inl rfl) (pe_call GP hr rfl T.g T.F.kp T.b .nil pass0 (pa_cons (pe_ix ix_tup (pv 0) pe_int (fun _ _ => rfl)) pa_nil)))
      (pss_cons (ps_if (PW.pt (pw_or (pt_cmpR op_isN (pv 4) pe_non (nomark _)) (pw_or1 (pt_not (pt_val (pe_call GI hr1 rfl TP.g TP.F.kp TP.b .nil pass0 (pa_cons (pe_ix ix_tup (pv 0) pe_int (fun _ _ => rfl)) (pa_cons (pe_op op_sub (pe_callB call_len_seq (by rfl) B.len PySem.boot_len (pa_cons (pe_ix ix_list (pv 4) pe_int (fun _ _ => rfl)) pa_nil)) pe_int) pa_nil)))))))) (pss_one (ps_ret pe_non)) pss_nil)
      (pss_cons (ps_par (i := 5) (j := 6) rfl scLTells.nd rfl rfl (by decide) rfl rfl (pa_cons (pe_ix ix_list (pv 4) pe_int (fun _ _ => rfl)) (pa_cons (pe_ix ix_tup (pv 0) pe_int (fun _ _ => rfl)) pa_nil)) (by rfl))
      (pss_one (ps_ret (pe_lst (pa_cons (pe_op op_cat (pe_op op_cat (pe_slice sl_list (pv 5) po_none (po_some (pv 6))) (pe_lst (pa_cons (pe_tup (pa_cons pe_str (pa_cons (pe_ix ix_list (pv 5) (pv 6) (fun _ _ => rfl)) (pa_cons (pe_ix ix_list (pv 5) (pe_op op_add (pv 6) pe_int) (fun _ _ => rfl)) pa_nil)))) pa_nil))) (pe_slice sl_list (pv 5) (po_some (pe_op op_add (pv 6) pe_int)) po_none)) (pa_cons (pe_ix ix_list (pv 4) pe_int (fun _ _ => rfl)) pa_nil))))))))))))))), ?_⟩
    refine ⟨_, rfl, _, _, _, _, d.isTup, rfl, .ty "tuple", hd.tyx, d.ktup, _, rfl, ?_⟩
    have e0 : ∀ nm : Unit, True := fun _ => trivial
    cases hd with
    | s h => exact iteT (k _ H (Same.refl H) (by simp [D.tl, LRes]))
    | i j => exact iteT (k _ H (Same.refl H) (by simp [D.tl, LRes]))
    | o => exact iteT (k _ H (Same.refl H) (by simp [D.tl, LRes]))
    | @t p xs ds e h =>
      have hdd := DAt.t e h
      refine iteF ⟨_, rfl, by show 0 ≤ sizeLine; exact Nat.zero_le _, fun q0 nq0 => ?_⟩
      have s0 := same_upd (o := .tup []) nq0
      have hdd' := hdd.mono (TK.of_same s0)
      refine ⟨(D.t ds).py, .tuple [], (DAt.py (K := K) hdd').1, .tup (SqT.of upd_same) .nil, DAt.shaped (K := K) hdd' (by omega), by decide +kernel, _, rfl, ?_⟩
      have s0' := s0
      generalize upd H q0 (.tup []) = H0 at s0 hdd'
      cases ds with
      | nil =>
        have eb : PyData.eqv (D.t []).py (.tuple []) = true := by simp [D.py, pyAll, PyData.eqv, PyData.eqvAll]
        rw [eb]
        exact iteT (k _ H0 s0 (by simp [D.tl, tlAll, tellOf, LRes]))
      | cons a r =>
        have eb : PyData.eqv (D.t (a :: r)).py (.tuple []) = false := by simp [D.py, pyAll, PyData.eqv, PyData.eqvAll]
        rw [eb]
        have e' := s0 _ _ e
        have hR := h.mono (TK.of_same s0)
        cases hR with
        | @cons x0 xs _ _ h0 hR =>
          refine iteF ⟨_, rfl, p, _, _, _, rfl, rfl, SqT.of e', atI_nat (j := 0) rfl, _, _, _, _, a.isStr, rfl, .ty "str", h0.tyx, a.kstr, _, rfl, ?_⟩
          cases ha : a.isStr with
          | false =>
            rw [tl_nstr ha] at k
            exact iteT (k _ H0 s0 rfl)
          | true =>
            cases h0 with
            | i n => cases ha
            | o => cases ha
            | t _ _ => cases ha
            | @s nm okn =>
              have lR := hR.length
              refine iteF ⟨_, rfl, p, _, _, _, rfl, rfl, SqT.of e', atI_nat (j := 0) rfl, ?_⟩
              have lx : (V.str nm :: xs).length = r.length + 1 := by rw [List.length_cons, lR]
              have leq : ∀ j : Nat, decide (V.int ((V.str nm :: xs).length : Int) = V.int (j : Int)) = decide (r.length + 1 = j) := fun j => by
                rw [lx, decide_eq_decide]
                constructor
                · intro z
                  injection z with z
                  omega
                · intro z
                  rw [z]
              by_cases c1 : nm = "is"
              · subst c1
                refine ⟨_, rfl, rfl, _, congrArg V.bl (strEq "is" "is"), ?_⟩
                rw [decide_eq_true rfl]
                refine iteT ?_
                by_cases l2 : r.length = 1
                · refine ⟨_, rfl, p, _, rfl, .inr (SqT.of e'), rfl, true, congrArg V.bl ((leq 2).trans (decide_eq_true (by omega))), iteT ?_⟩
                  rcases r with _ | ⟨x, _ | ⟨y, r⟩⟩
                  · simp at l2
                  · cases hR with
                    | @cons vx _ _ _ hx hR =>
                      cases hR
                      have dx : x.dep ≤ n := by
                        simp only [D.dep, depAll] at hn
                        omega
                      refine ⟨_, rfl, p, _, _, _, rfl, rfl, SqT.of e', atI_nat (j := 1) rfl, vx, x, rfl, hx, dx, fun H1 s1 => ⟨_, rfl, ?_⟩⟩
                      cases hk : x.isKd with
                      | false =>
                        have hx0 : x.ty = none := by
                          unfold D.isKd at hk
                          cases q : x.ty with
                          | none => rfl
                          | some _ => rw [q] at hk; cases hk
                        exact iteF (k _ _ (s0.trans s1) (by simp [D.tl, tlAll, tellOf, hx0, LRes]))
                      | true =>
                        obtain ⟨kd, hkd⟩ := Option.isSome_iff_exists.mp hk
                        have tx := (hx.mono (TK.of_same s1)).ty hkd
                        refine iteT ⟨_, rfl, p, _, _, _, rfl, rfl, SqT.of (s1 _ _ e'), atI_nat (j := 1) rfl, by show 1 ≤ sizeLine; rw [sizeLine_eq]; omega, fun M nM => ?_⟩
                        have sm := same_upd (o := .lst [vx]) nM
                        refine ⟨_, rfl, p, _, _, _, rfl, rfl, SqT.of (sm _ _ (s1 _ _ e')), atI_nat (j := 1) rfl, by show 2 ≤ sizeLine; rw [sizeLine_eq]; omega, fun N nN => ?_⟩
                        have sn := same_upd (o := .lst [.ref M, vx]) nN
                        refine k _ _ ((s0.trans s1).trans (sm.trans sn)) ?_
                        rw [tl_of (.is hkd)]
                        have txN := tx.mono (TK.of_same (sm.trans sn))
                        exact ⟨N, M, [vx], vx, rfl, upd_same, sn _ _ upd_same, .cons txN .nil, txN⟩
                  · simp at l2
                · refine ⟨_, rfl, p, _, rfl, .inr (SqT.of e'), rfl, false, congrArg V.bl ((leq 2).trans (decide_eq_false (by omega))), iteF ?_⟩
                  have hnone : (D.t (.s "is" :: r)).tl = none := none_of (fun o ho => by rcases tl_len ho with q | q | q | q | q | q <;> first | omega | exact absurd q.1 (by decide))
                  exact k _ _ s0 (by rw [hnone]; rfl)
              · refine ⟨_, rfl, rfl, _, congrArg V.bl (strEq nm "is"), ?_⟩
                rw [decide_eq_false c1]
                refine iteF ?_
                refine ⟨_, rfl, by show 2 ≤ sizeLine; rw [sizeLine_eq]; omega, fun z2 nz2 => ⟨z2, _, rfl, .inr (SqT.of upd_same), rfl, rfl, _, congrArg V.bl (in2 nm), ?_⟩⟩
                have s2 := s0.trans (same_upd (o := .tup [.str "over made", .str "under made"]) nz2)
                have p2 := (same_upd (o := .tup [.str "over made", .str "under made"]) nz2) _ _ e'
                by_cases c2 : nm = "over made" ∨ nm = "under made"
                · rw [decide_eq_true c2]
                  have c3 : ¬ placed nm = true := by rcases c2 with q | q <;> subst q <;> decide
                  have c4 : ¬ nm = "then made" := by rcases c2 with q | q <;> subst q <;> decide
                  have c5 : ¬ nm = "then used" := by rcases c2 with q | q <;> subst q <;> decide
                  by_cases l2 : r.length = 1
                  · refine iteT ⟨_, rfl, p, _, rfl, .inr (SqT.of p2), rfl, true, congrArg V.bl ((leq 2).trans (decide_eq_true (by omega))), iteT ?_⟩
                    rcases r with _ | ⟨x, _ | ⟨y, r⟩⟩
                    · simp at l2
                    · exact ⟨_, rfl, .ref p, nm, x, rfl, (DAt.t e h).mono (TK.of_same s2), c2, hn, hz, h60, fun v' H' s' r' => k v' H' (s2.trans s') r'⟩
                    · simp at l2
                  · have hnone : (D.t (.s nm :: r)).tl = none := none_of (fun o ho => by rcases tl_len ho with q | q | q | q | q | q <;> first | omega | exact c3 q.1 | exact c4 q.1 | exact c5 q.1 | exact c1 q.1)
                    refine iteT ⟨_, rfl, p, _, rfl, .inr (SqT.of p2), rfl, false, congrArg V.bl ((leq 2).trans (decide_eq_false (by omega))), iteF ?_⟩
                    refine ⟨_, rfl, by show 3 ≤ sizeLine; rw [sizeLine_eq]; omega, fun z3 nz3 => ⟨z3, _, rfl, .inr (SqT.of upd_same), rfl, rfl, _, congrArg V.bl (in3 nm), ?_⟩⟩
                    have s3 := s2.trans (same_upd (o := .tup [.str "over used", .str "under used", .str "cut"]) nz3)
                    have p3 := (same_upd (o := .tup [.str "over used", .str "under used", .str "cut"]) nz3) _ _ p2
                    rw [decide_eq_false c3]
                    refine iteF (iteF ?_)
                    refine ⟨_, rfl, rfl, _, congrArg V.bl (strEq nm "then made"), ?_⟩
                    rw [decide_eq_false c4]
                    refine iteF (iteF ?_)
                    refine ⟨_, rfl, rfl, _, congrArg (fun b => V.bl (!b)) (strEq nm "then used"), ?_⟩
                    rw [decide_eq_false c5]
                    exact iteT (k _ _ s3 (by rw [hnone]; rfl))

                · rw [decide_eq_false c2]
                  refine iteF (iteF ?_)
                  refine ⟨_, rfl, by show 3 ≤ sizeLine; rw [sizeLine_eq]; omega, fun z3 nz3 => ⟨z3, _, rfl, .inr (SqT.of upd_same), rfl, rfl, _, congrArg V.bl (in3 nm), ?_⟩⟩
                  have s3 := s2.trans (same_upd (o := .tup [.str "over used", .str "under used", .str "cut"]) nz3)
                  have p3 := (same_upd (o := .tup [.str "over used", .str "under used", .str "cut"]) nz3) _ _ p2
                  by_cases c3 : placed nm = true
                  · rw [decide_eq_true c3]
                    have c4 : ¬ nm = "then made" := by rcases placed_names c3 with q | q | q <;> subst q <;> decide
                    have c5 : ¬ nm = "then used" := by rcases placed_names c3 with q | q | q <;> subst q <;> decide
                    by_cases l2 : r.length = 3
                    · refine iteT ⟨_, rfl, p, _, rfl, .inr (SqT.of p3), rfl, true, congrArg V.bl ((leq 4).trans (decide_eq_true (by omega))), iteT ?_⟩
                      rcases r with _ | ⟨a, _ | ⟨x, _ | ⟨y, _ | ⟨z, r⟩⟩⟩⟩
                      · simp at l2
                      · simp at l2
                      · simp at l2
                      · exact ⟨_, rfl, .ref p, nm, a, x, y, rfl, (DAt.t e h).mono (TK.of_same s3), c3, hn, hz, h60, fun v' H' s' r' => k v' H' (s3.trans s') r'⟩
                      · simp at l2
                    · have hnone : (D.t (.s nm :: r)).tl = none := none_of (fun o ho => by rcases tl_len ho with q | q | q | q | q | q <;> first | omega | exact c4 q.1 | exact c5 q.1 | exact c1 q.1 | exact c2 (.inl q.1) | exact c2 (.inr q.1))
                      refine iteT ⟨_, rfl, p, _, rfl, .inr (SqT.of p3), rfl, false, congrArg V.bl ((leq 4).trans (decide_eq_false (by omega))), iteF ?_⟩
                      refine ⟨_, rfl, rfl, _, congrArg V.bl (strEq nm "then made"), ?_⟩
                      rw [decide_eq_false c4]
                      refine iteF (iteF ?_)
                      refine ⟨_, rfl, rfl, _, congrArg (fun b => V.bl (!b)) (strEq nm "then used"), ?_⟩
                      rw [decide_eq_false c5]
                      exact iteT (k _ _ s3 (by rw [hnone]; rfl))

                  · rw [decide_eq_false c3]
                    refine iteF (iteF ?_)
                    refine ⟨_, rfl, rfl, _, congrArg V.bl (strEq nm "then made"), ?_⟩
                    by_cases c4 : nm = "then made"
                    · rw [decide_eq_true c4]
                      have c5 : ¬ nm = "then used" := by subst c4; decide
                      by_cases l2 : r.length = 2
                      · refine iteT ⟨_, rfl, p, _, rfl, .inr (SqT.of p3), rfl, true, congrArg V.bl ((leq 3).trans (decide_eq_true (by omega))), iteT ?_⟩
                        subst c4
                        rcases r with _ | ⟨x, _ | ⟨y, _ | ⟨z, r⟩⟩⟩
                        · simp at l2
                        · simp at l2
                        · cases hR with
                          | @cons vx _ _ _ hx hR => cases hR with
                            | @cons vy _ _ _ hy hR =>
                              cases hR
                              have dx : (x.dep + 1 ≤ n ∧ x.dep ≤ 60 ∧ x.size ≤ 40000) ∧ y.dep + 1 ≤ n ∧ y.dep ≤ 60 ∧ y.size ≤ 40000 := by
                                simp only [D.dep, depAll, D.size, sizeAll] at hn h60 hz
                                omega
                              have s03 := (same_upd (o := .tup [.str "over made", .str "under made"]) nz2).trans (same_upd (o := .tup [.str "over used", .str "under used", .str "cut"]) nz3)
                              refine ⟨_, rfl, p, _, _, _, rfl, rfl, SqT.of p3, atI_nat (j := 1) rfl, hsp vx x _ _ (hx.mono (TK.of_same s03)) dx.1.1 dx.1.2.2 dx.1.2.1 fun v1 H1 s1 r1 => ?_⟩
                              refine ⟨_, rfl, p, _, _, _, rfl, rfl, SqT.of (s1 _ _ p3), atI_nat (j := 2) rfl, hsp vy y _ _ (hy.mono (TK.of_same (s03.trans s1))) dx.2.1 dx.2.2.2 dx.2.2.1 fun v2 H2 s4 r2 => ⟨_, _, rfl, ?_⟩⟩
                              have r1' := r1.same s4
                              refine ⟨_, rfl, rfl, _, rfl, ?_⟩
                              rw [r1'.isnon]
                              cases ex : x.tl with
                              | none => exact iteT (iteT (k _ _ ((s3.trans s1).trans s4) (by simp [D.tl, tlAll, tellOf, ex, both, LRes])))
                              | some rx =>
                                refine iteF ⟨_, rfl, rfl, _, rfl, ?_⟩
                                rw [r2.isnon]
                                cases ey : y.tl with
                                | none => exact iteT (k _ _ ((s3.trans s1).trans s4) (by simp [D.tl, tlAll, tellOf, ex, ey, both, LRes]))
                                | some ry =>
                                  rw [ex] at r1'
                                  rw [ey] at r2
                                  obtain ⟨row1, g1⟩ := rx
                                  obtain ⟨row2, g2⟩ := ry
                                  obtain ⟨q1, M1, ms1, vg1, rfl, eq1, eM1, hT1, hg1⟩ := r1'
                                  obtain ⟨q2, M2, ms2, vg2, rfl, eq2, eM2, hT2, hg2⟩ := r2
                                  have hT1 : Tys H2 ms1 row1 := hT1
                                  have hT2 : Tys H2 ms2 row2 := hT2
                                  have hg1 : TyAt H2 vg1 g1 := hg1
                                  have hg2 : TyAt H2 vg2 g2 := hg2
                                  have lT1 := hT1.length
                                  have lT2 := hT2.length
                                  have lb1 : row1.length ≤ 40000 := by have q9 : row1.length ≤ x.size := (tl_bd x.size x _ (Nat.le_refl _) ex).1; omega
                                  have lb2 : row2.length ≤ 40000 := by have q9 : row2.length ≤ y.size := (tl_bd y.size y _ (Nat.le_refl _) ey).1; omega
                                  refine iteF ⟨_, rfl, q1, _, _, _, rfl, rfl, SqL.of eq1, atI_nat (j := 0) rfl, _, rfl, q2, _, _, _, rfl, rfl, SqL.of eq2, atI_nat (j := 0) rfl, M1, M2, _, _, rfl, rfl, eM1, eM2, by rw [sizeLine_eq]; omega, fun N nN => ?_⟩
                                  have sa := same_upd (o := .lst (ms1 ++ ms2)) nN
                                  refine ⟨_, rfl, q1, _, _, _, rfl, rfl, SqL.of (sa _ _ eq1), atI_nat (j := 1) rfl, _, rfl, q2, _, _, _, rfl, rfl, SqL.of (sa _ _ eq2), atI_nat (j := 1) rfl, by show 3 ≤ sizeLine; rw [sizeLine_eq]; omega, fun B1 nB => ⟨by show 2 ≤ sizeLine; rw [sizeLine_eq]; omega, fun C1 nC => ?_⟩⟩
                                  have sb := same_upd (o := .tup [.str "then", vg1, vg2]) nB
                                  have sc := same_upd (o := .lst [.ref N, .ref B1]) nC
                                  have sac := (sa.trans sb).trans sc
                                  refine k _ _ (((s3.trans s1).trans s4).trans sac) ?_
                                  rw [tl_of (.tm ex ey)]
                                  exact ⟨C1, N, ms1 ++ ms2, .ref B1, rfl, upd_same, (sb.trans sc) _ _ upd_same, (hT1.append hT2).mono (TK.of_same sac), .n (sc _ _ upd_same) (hg1.mono (TK.of_same sac)) (hg2.mono (TK.of_same sac))⟩
                        · simp at l2
                      · have hnone : (D.t (.s nm :: r)).tl = none := none_of (fun o ho => by rcases tl_len ho with q | q | q | q | q | q <;> first | omega | exact c3 q.1 | exact c5 q.1 | exact c1 q.1 | exact c2 (.inl q.1) | exact c2 (.inr q.1))
                        refine iteT ⟨_, rfl, p, _, rfl, .inr (SqT.of p3), rfl, false, congrArg V.bl ((leq 3).trans (decide_eq_false (by omega))), iteF ?_⟩
                        refine ⟨_, rfl, rfl, _, congrArg (fun b => V.bl (!b)) (strEq nm "then used"), ?_⟩
                        rw [decide_eq_false c5]
                        exact iteT (k _ _ s3 (by rw [hnone]; rfl))

                    · rw [decide_eq_false c4]
                      refine iteF (iteF ?_)
                      refine ⟨_, rfl, rfl, _, congrArg (fun b => V.bl (!b)) (strEq nm "then used"), ?_⟩
                      by_cases c5 : nm = "then used"
                      · rw [decide_eq_true c5]
                        by_cases l2 : r.length = 2
                        · refine iteF ⟨_, rfl, p, _, rfl, .inr (SqT.of p3), rfl, false, congrArg (fun b => V.bl (!b)) ((leq 3).trans (decide_eq_true (by omega))), iteF ?_⟩
                          subst c5
                          rcases r with _ | ⟨a, _ | ⟨y, _ | ⟨z, r⟩⟩⟩
                          · simp at l2
                          · simp at l2
                          · cases hR with
                            | @cons va _ _ _ hav hR => cases hR with
                              | @cons vy _ _ _ hy hR =>
                                cases hR
                                have dx : y.dep + 1 ≤ n ∧ y.dep ≤ 60 ∧ y.size ≤ 40000 := by
                                  simp only [D.dep, depAll, D.size, sizeAll] at hn h60 hz
                                  omega
                                have s03 := (same_upd (o := .tup [.str "over made", .str "under made"]) nz2).trans (same_upd (o := .tup [.str "over used", .str "under used", .str "cut"]) nz3)
                                refine ⟨_, rfl, p, _, _, _, rfl, rfl, SqT.of p3, atI_nat (j := 2) rfl, hsp vy y _ _ (hy.mono (TK.of_same s03)) dx.1 dx.2.2 dx.2.1 fun v1 H1 s1 r1 => ⟨_, rfl, rfl, _, rfl, ?_⟩⟩
                                rw [r1.isnon]
                                have s13 := s3.trans s1
                                have p4 := s1 _ _ p3
                                have hav1 := hav.mono (TK.of_same (s03.trans s1))
                                have hnil : y.tl = none ∨ (∀ p, a = .i p → ∀ ry, y.tl = some ry → p < 0 ∨ ry.1.length ≤ p.toNat + 1) ∨ (∀ p, a ≠ .i p) → (D.t [.s "then used", a, y]).tl = none := by
                                  intro hh
                                  refine none_of fun r hr => ?_
                                  cases tl_inv hr with
                                  | @tu pp _ ry rr h1 h2 =>
                                    have hp := thenU_p h2
                                    rcases hh with q | q | q
                                    · rw [q] at h1; cases h1
                                    · rcases q _ rfl _ h1 with q | q
                                      · omega
                                      · skip
                                        obtain ⟨row, goal⟩ := ry
                                        unfold thenU at h2
                                        rw [if_pos hp] at h2
                                        have e9 : row[pp.toNat + 1]? = none := List.getElem?_eq_none q
                                        revert h2
                                        show (match row[pp.toNat]?, row[pp.toNat + 1]? with | some a, some b => _ | _, _ => none) = _ → False
                                        rw [e9]
                                        cases row[pp.toNat]? <;> (intro z; cases z)
                                    · exact q _ rfl
                                cases ey : y.tl with
                                | none =>
                                  rw [hnil (.inl ey)] at k
                                  exact iteT (k _ _ s13 rfl)
                                | some ry =>
                                  rw [ey] at r1
                                  obtain ⟨row, goal⟩ := ry
                                  obtain ⟨q2, M2, ms2, vg2, rfl, eq2, eM2, hT2, hg2⟩ := r1
                                  have hT2 : Tys H1 ms2 row := hT2
                                  have hg2 : TyAt H1 vg2 goal := hg2
                                  have lT2 := hT2.length
                                  have lb2 : row.length ≤ 40000 := by have q9 : row.length ≤ y.size := (tl_bd y.size y _ (Nat.le_refl _) ey).1; omega
                                  refine iteF ⟨_, rfl, p, _, _, _, rfl, rfl, SqT.of p4, atI_nat (j := 1) rfl, _, rfl, q2, _, _, _, rfl, rfl, SqL.of eq2, atI_nat (j := 0) rfl, M2, ms2, rfl, .inl (SqL.of eM2), _, _, rfl, rfl, va, a, _, rfl, hav1, ?_⟩
                                  cases hpb : a.pl ((ms2.length : Int) - 1) with
                                  | false =>
                                    have e9 : (D.t [.s "then used", a, y]).tl = none := by
                                      refine hnil ?_
                                      cases a with
                                      | s z => exact .inr (.inr fun p z => by cases z)
                                      | o => exact .inr (.inr fun p z => by cases z)
                                      | t l => exact .inr (.inr fun p z => by cases z)
                                      | i p' =>
                                        refine .inr (.inl fun p'' ep ry er => ?_)
                                        cases ep
                                        rw [ey] at er
                                        cases er
                                        simp only [D.pl, Bool.and_eq_false_iff, decide_eq_false_iff_not] at hpb
                                        show p' < 0 ∨ row.length ≤ p'.toNat + 1
                                        omega
                                    rw [e9] at k
                                    exact ⟨_, rfl, iteT (k _ _ s13 rfl)⟩
                                  | true =>
                                    obtain ⟨j, rfl, hj⟩ : ∃ j : Nat, a = .i j ∧ j + 1 < ms2.length := by
                                      cases a with
                                      | s z => cases hpb
                                      | o => cases hpb
                                      | t l => cases hpb
                                      | i p' =>
                                        simp only [D.pl, Bool.and_eq_true, decide_eq_true_eq] at hpb
                                        exact ⟨p'.toNat, by rw [Int.toNat_of_nonneg hpb.1], by omega⟩
                                    cases hav1
                                    have ek1 : row[j]? = some (row[j]'(by omega)) := List.getElem?_eq_getElem (by omega)
                                    have ek2 : row[j + 1]? = some (row[j + 1]'(by omega)) := List.getElem?_eq_getElem (by omega)
                                    generalize row[j]'(by omega) = ka at ek1
                                    generalize row[j + 1]'(by omega) = kb at ek2
                                    obtain ⟨ua, eva, tva⟩ := hT2.get ek1
                                    obtain ⟨ub, evb, tvb⟩ := hT2.get ek2
                                    refine ⟨_, rfl, iteF ⟨_, rfl, q2, _, _, _, rfl, rfl, SqL.of eq2, atI_nat (j := 0) rfl, _, rfl, p, _, _, _, rfl, rfl, SqT.of p4, atI_nat (j := 1) rfl, _, _, rfl, ?_⟩⟩
                                    refine ⟨_, rfl, _, rfl, _, rfl, M2, ms2, rfl, SqL.of eM2, fun A1 nA => ?_⟩
                                    rw [cutV_take]
                                    have s5 := same_upd (o := .lst (ms2.take j)) nA
                                    have eix : ((j : Int) + 1) = ((j + 1 : Nat) : Int) := by omega
                                    refine ⟨_, rfl, _, rfl, M2, _, _, ua, rfl, rfl, SqL.of (s5 _ _ eM2), atI_nat eva, _, rfl, _, rfl, _, _, rfl, rfl, M2, _, _, ub, rfl, rfl, SqL.of (s5 _ _ eM2), by rw [eix]; exact atI_nat evb, by show 3 ≤ sizeLine; rw [sizeLine_eq]; omega, fun B1 nB => ⟨by show 1 ≤ sizeLine; rw [sizeLine_eq]; omega, fun C1 nC => ?_⟩⟩
                                    have s6 := same_upd (o := .tup [.str "then", ua, ub]) nB
                                    have s7 := same_upd (o := .lst [.ref B1]) nC
                                    refine ⟨A1, C1, _, _, rfl, rfl, (s6.trans s7) _ _ upd_same, upd_same, by rw [List.length_take, sizeLine_eq]; simp only [List.length_singleton]; omega, fun F1 nF => ?_⟩
                                    have s8 := same_upd (o := .lst (ms2.take j ++ [.ref B1])) nF
                                    have s58 := ((s5.trans s6).trans s7).trans s8
                                    refine ⟨_, rfl, _, rfl, _, _, rfl, rfl, _, rfl, M2, ms2, rfl, SqL.of (s58 _ _ eM2), fun G1 nG => ?_⟩
                                    have ec : cutV ms2 (some ((j : Int) + 2)) none = ms2.drop (j + 2) := cutV_from (b := j + 2)
                                    rw [ec]
                                    have s9 := same_upd (o := .lst (ms2.drop (j + 2))) nG
                                    refine ⟨F1, G1, _, _, rfl, rfl, s9 _ _ upd_same, upd_same, by simp only [List.length_append, List.length_take, List.length_drop, List.length_singleton]; rw [sizeLine_eq]; omega, fun N nN => ?_⟩
                                    have s10 := same_upd (o := .lst (ms2.take j ++ [.ref B1] ++ ms2.drop (j + 2))) nN
                                    have s510 := (s58.trans s9).trans s10
                                    refine ⟨_, rfl, q2, _, _, _, rfl, rfl, SqL.of (s510 _ _ eq2), atI_nat (j := 1) rfl, by show 2 ≤ sizeLine; rw [sizeLine_eq]; omega, fun qq nqq => ?_⟩
                                    have s11 := same_upd (o := .lst [.ref N, vg2]) nqq
                                    have sall := s510.trans s11
                                    refine k _ _ (s13.trans sall) ?_
                                    have et : thenU j (row, goal) = some (row.take j ++ [.n .th ka kb] ++ row.drop (j + 2), goal) := by
                                      unfold thenU
                                      rw [if_pos (by omega)]
                                      show (match row[j]?, row[j + 1]? with | some a, some b => _ | _, _ => none) = _
                                      rw [ek1, ek2]
                                      rfl
                                    rw [tl_of (.tu ey et)]
                                    have tB := ((((s7.trans s8).trans s9).trans s10).trans s11) _ _ (upd_same (a := B1) (o := .tup [.str "then", ua, ub]))
                                    exact ⟨qq, N, _, vg2, rfl, upd_same, s11 _ _ upd_same, (((hT2.take j).mono (TK.of_same sall)).append (.cons (.n tB (tva.mono (TK.of_same sall)) (tvb.mono (TK.of_same sall))) .nil)).append ((hT2.drop (j + 2)).mono (TK.of_same sall)), hg2.mono (TK.of_same sall)⟩
                          · simp at l2
                        · have hnone : (D.t (.s nm :: r)).tl = none := none_of (fun o ho => by rcases tl_len ho with q | q | q | q | q | q <;> first | omega | exact c3 q.1 | exact c4 q.1 | exact c1 q.1 | exact c2 (.inl q.1) | exact c2 (.inr q.1))
                          refine iteF ⟨_, rfl, p, _, rfl, .inr (SqT.of p3), rfl, true, congrArg (fun b => V.bl (!b)) ((leq 3).trans (decide_eq_false (by omega))), iteT ?_⟩
                          exact k _ _ s3 (by rw [hnone]; rfl)
                      · have hnone : (D.t (.s nm :: r)).tl = none := none_of (fun o ho => by rcases tl_len ho with q | q | q | q | q | q <;> first | exact c5 q.1 | exact c3 q.1 | exact c4 q.1 | exact c1 q.1 | exact c2 (.inl q.1) | exact c2 (.inr q.1))
                        rw [decide_eq_false c5]
                        exact iteT (k _ _ s3 (by rw [hnone]; rfl))


end
end U6

namespace U6
open PySem PySem.Spec PyProof.Rows L2 LamX KT
open PySem.W (Frag)
section
variable {P : Program} {w : World} {K : Frag} {mg : Str → Option Value} {base : Heap}
theorem ok_ltells {f fk fm fu fp : Addr} {fd fdk fdm fdu fdp : FuncData} (T : Top K mg "_law_tells" sLTells pLTells f fd) (TKd : Top K mg "_law_is_kind" sLIsKind pLIsKind fk fdk) (TM : Top K mg "_law_told_made" sLToldMade pLToldMade fm fdm) (TU : Top K mg "_law_told_used" sLToldUsed pLToldUsed fu fdu) (TP : Top K mg "_law_is_place" sLIsPlace pLIsPlace fp fdp) (B : Blt mg) : ∀ n : Nat, FnOk P w K mg base CX0 (3 + 2 * n) f fd pLTells (spLTells n)
  | 0 => by
    have V : FnOk P w K mg base CX0 1 f fd pLTells (fun _ _ _ _ => False) := fn_vac.mono (by omega)
    have no : LessT 0 (fun _ _ _ _ => False) := fun _ _ _ _ _ h _ _ _ => absurd h (by omega)
    exact tells_step (m := 2) T TKd TM TU TP B (V.mono (by omega)) (by omega) no (toldMade_step (m := 1) TM T B V no) (toldUsed_step (m := 1) TU T TP B V (by omega) no) ((ok_lisKind TKd B 0).mono (by omega))
  | n + 1 => by
    have V := ok_ltells T TKd TM TU TP B n
    have less : LessT (n + 1) (spLTells n) := fun v d H Q h1 h2 h3 h4 h5 => ⟨v, d, rfl, h1, by omega, h3, h4, h5⟩
    exact (tells_step (m := 4 + 2 * n) T TKd TM TU TP B (V.mono (by omega)) (by omega) less ((toldMade_step (m := 3 + 2 * n) TM T B V less).mono (by omega)) ((toldUsed_step (m := 3 + 2 * n) TU T TP B V (by omega) less).mono (by omega)) ((ok_lisKind TKd B (n + 1)).mono (by omega))).mono (by omega)
theorem dep_mem {p : D} : ∀ {l : List D}, p ∈ l → p.dep ≤ depAll l
  | [], h => by cases h
  | d :: r, h => by
    simp only [depAll]
    rcases List.mem_cons.mp h with e | q
    · rw [e]; omega
    · have := dep_mem q; omega
/-! ### equal data again -/
def spSame (n : Nat) : Sp := fun vs H Q _ => ∃ v u, vs = [v] ∧ DAt H v u ∧ u.dep ≤ n ∧ u.size ≤ 40000 ∧ ∀ v' H', Same H H' → DAt H' v' u → Q v' H'
theorem same_step {f : Addr} {fd : FuncData} (T : Top K mg "_law_same" sLSame pLSame f fd) (B : Blt mg) {n m : Nat} {sp' : Sp} (GP : FnOk P w K mg base CX0 m f fd pLSame sp')
    (hsp : ∀ v u H Q, DAt H v u → u.dep + 1 ≤ n → u.size ≤ 40000 → (∀ v' H', Same H H' → DAt H' v' u → Q v' H') → sp' [v] H Q L2.E0) : FnOk P w K mg base CX0 (m + 1) f fd pLSame (spSame n) := by
  refine T.F.ok scLSame (fun vs H Q E h => ?_) (fun cdv A outer s H vs Q E hr h => ?_)
  · obtain ⟨_, _, rfl, _⟩ := h
    rfl
  · obtain ⟨v, u, rfl, hd, hn, hz, k⟩ := h
    refine ⟨_, (pss_cons (ps_if (pt_val (pe_callB call_isi (by rfl) B.isi (by decide +kernel) (pa_cons (pv 0) (pa_cons (pe_bltn (v := .ty "dict") (by rfl) B.dict (by decide +kernel) rfl) pa_nil)))) pss_never pss_nil)
      (pss_cons (ps_if (pt_val (pe_callB call_isi (by rfl) B.isi (by decide +kernel) (pa_cons (pv 0) (pa_cons (pe_bltn (v := .ty "list") (by rfl) B.list (by decide +kernel) rfl) pa_nil)))) pss_never pss_nil)
      (pss_one (ps_ret (pe_ifExp (pt_val (pe_callB call_isi (by rfl) B.isi (by decide +kernel) (pa_cons (pv 0) (pa_cons (pe_bltn (v := .ty "tuple") (by rfl) B.tuple (by decide +kernel) rfl) pa_nil)))) (pe_callTy call_tuple_of (by rfl) B.tuple (by decide +kernel) (pa_cons (pe_lc (own := [("item", 1)]) (g := gName 1) (tt := tYes) rfl scLSame.nd (pi_tup (pv 0)) (blkOk_by (N := nLSame) (sc := defScope sLSame) (by decide +kernel)) (fun _ _ _ _ _ => pg_name (i := 1) scLSame.nd rfl (Or.inl rfl)) (fun _ _ _ _ _ => pts_nil) (fun _ _ _ _ _ => (pe_call GP hr rfl T.g T.F.kp T.b .nil pass0 (pa_cons (pv 1) pa_nil)))) pa_nil)) (pv 0)))))), ?_⟩
    have kd : PySem.W.kitOne K (.type u.cls) (.type "dict") = some false := by cases u <;> exact kit_ty (by dsimp only [D.cls]; decide +kernel)
    have kl : PySem.W.kitOne K (.type u.cls) (.type "list") = some false := by cases u <;> exact kit_ty (by dsimp only [D.cls]; decide +kernel)
    refine ⟨_, rfl, _, _, _, _, false, rfl, .ty "dict", hd.tyx, kd, _, rfl, iteF ?_⟩
    refine ⟨_, rfl, _, _, _, _, false, rfl, .ty "list", hd.tyx, kl, _, rfl, iteF ?_⟩
    refine ⟨_, rfl, _, _, _, _, u.isTup, rfl, .ty "tuple", hd.tyx, u.ktup, _, rfl, ?_⟩
    cases hd with
    | s h => exact iteF ⟨_, rfl, k _ H (Same.refl H) (.s h)⟩
    | i n => exact iteF ⟨_, rfl, k _ H (Same.refl H) (.i n)⟩
    | o => exact iteF ⟨_, rfl, k _ H (Same.refl H) .o⟩
    | @t p xs ds e h =>
      have hz' : sizeAll ds + 1 ≤ 40000 := by simpa [D.size] using hz
      have ll := len_size ds
      have lx := h.length
      have hn' : depAll ds + 1 ≤ n := by simpa [D.dep] using hn
      refine iteT ⟨_, rfl, p, rfl, ⟨_, SqT.of e⟩, fun W hW => ?_⟩
      refine lc_tup (K := K) (xs := xs) (fun i H' => Same H H' ∧ ∃ ys, H' W = some (.lst ys) ∧ DsAt H' ys (ds.take i)) ⟨same_upd hW, [], upd_same, by rw [List.take_zero]; exact .nil⟩ (fun i H' _ q => SqT.of (q.1 _ _ e)) ?_ ?_
      · rintro i x H' hx ⟨sI, ys, eW, hys⟩
        obtain ⟨u, hu, hxu⟩ := h.at_ hx
        have mu := List.mem_of_getElem? hu
        have du : u.dep + 1 ≤ n := by
          have q := dep_mem mu
          omega
        have zu : u.size ≤ 40000 := by
          have q := size_mem mu
          omega
        have ly := hys.length
        rw [List.length_take] at ly
        refine ⟨rfl, x, rfl, hsp x u _ _ (hxu.mono (TK.of_same sI)) du zu fun v' H2 s2 hv' => ⟨ys, s2 _ _ eW, by rw [sizeLine_eq]; omega, same_over (sI.trans s2) hW, ys ++ [v'], upd_same, ?_⟩⟩
        have tkw : TK H2 (upd H2 W (.lst (ys ++ [v']))) := TK.upd_lst (s2 _ _ eW)
        rw [List.take_add_one, hu]
        exact (hys.mono ((TK.of_same s2).trans tkw)).append (.cons (hv'.mono tkw) .nil)
      · rintro H' ⟨sI, ys, eW, hys⟩
        rw [lx, List.take_length] at hys
        refine ⟨W, ys, rfl, .inl ⟨SqL.of eW, fun q nq => k _ _ (sI.trans (same_upd nq)) (.t upd_same (hys.mono (TK.upd_new nq)))⟩⟩
theorem ok_same {f : Addr} {fd : FuncData} (T : Top K mg "_law_same" sLSame pLSame f fd) (B : Blt mg) : ∀ n : Nat, FnOk P w K mg base CX0 (1 + n) f fd pLSame (spSame n)
  | 0 => same_step T B fn_vac fun _ _ _ _ _ h _ _ => absurd h (by omega)
  | n + 1 => same_step (m := 1 + n) T B (ok_same T B n) fun v u H Q h1 h2 h3 h4 => ⟨v, u, rfl, h1, by omega, h3, h4⟩
/-! ### knots by the law -/
def innerD : D → List D
  | .t (.s nm :: r) => if nm = "is" then [] else r.filter D.isTup
  | _ => []
def spInner : Sp := fun vs H Q _ => ∃ v u, vs = [v] ∧ DAt H v u ∧ Fm u ∧ u.size ≤ 40000 ∧ (∀ p ∈ u.parts, p.isTup = true) ∧ ∀ (L : Addr) (us : List V) (H' : Hp), Same H H' → H L = none → H' L = some (.lst us) → DsAt H' us u.parts → Q (.ref L) H'
theorem filt_parts {nm : Str} {r : List D} (f : Fm (.t (.s nm :: r))) (h : ∀ p ∈ (D.t (.s nm :: r)).parts, p.isTup = true) (hne : ¬ nm = "is") : r.filter D.isTup = (D.t (.s nm :: r)).parts := by
  generalize hu : D.t (.s nm :: r) = u at f h ⊢
  cases f with
  | is _ => injection hu with hu; injection hu with h1 _; injection h1 with h1; exact absurd h1 hne
  | om => injection hu with hu; injection hu with _ hu; subst hu; simp [D.parts] at h ⊢; exact h
  | um => injection hu with hu; injection hu with _ hu; subst hu; simp [D.parts] at h ⊢; exact h
  | tm => injection hu with hu; injection hu with _ hu; subst hu; simp [D.parts] at h ⊢; simp [h.1, h.2]
  | tu _ => injection hu with hu; injection hu with _ hu; subst hu; simp [D.parts] at h ⊢; simp [D.isTup, h]; simpa [D.isTup] using h
  | ou _ => injection hu with hu; injection hu with _ hu; subst hu; simp [D.parts] at h ⊢; simp [List.filter, D.isTup] at h ⊢; simp [h.1, h.2]
  | uu _ => injection hu with hu; injection hu with _ hu; subst hu; simp [D.parts] at h ⊢; simp [List.filter, D.isTup] at h ⊢; simp [h.1, h.2]
  | ct _ => injection hu with hu; injection hu with _ hu; subst hu; simp [D.parts] at h ⊢; simp [List.filter, D.isTup] at h ⊢; simp [h.1, h.2]
end
end U6

namespace U6
open PySem PySem.Spec PyProof.Rows L2 LamX KT
open PySem.W (Frag)
theorem tl_tup {p : D} (h : p.tl.isSome = true) : p.isTup = true := by
  cases p with
  | t l => rfl
  | s z => simp [D.tl] at h
  | i n => simp [D.tl] at h
  | o => simp [D.tl] at h
theorem nodesAll_sum (l : List D) : (nodesAll l).length = (l.map fun p => p.nodes.length).sum := by
  induction l with
  | nil => rfl
  | cons d r ih => simp only [nodesAll, List.length_append, ih, List.map_cons, List.sum_cons]
theorem sum_rev (l : List Nat) : l.reverse.sum = l.sum := List.sum_reverse l
theorem nodes_sum {u : D} (f : Fm u) : u.nodes.length = 1 + (u.parts.map fun p => p.nodes.length).sum := by
  rw [f.nodes, List.length_cons, nodesAll_sum, List.map_reverse, sum_rev]
  omega
def cutsN (u : D) : Nat := (u.nodes.filter D.isCut).length
theorem nodesAll_cuts (l : List D) : ((nodesAll l).filter D.isCut).length = (l.map cutsN).sum := by
  induction l with
  | nil => rfl
  | cons d r ih => simp only [nodesAll, List.filter_append, List.length_append, ih, List.map_cons, List.sum_cons, cutsN]
theorem cuts_sum {u : D} (f : Fm u) : cutsN u = (if u.isCut = true then 1 else 0) + (u.parts.map cutsN).sum := by
  unfold cutsN
  rw [f.nodes, List.filter_cons]
  have e : ((nodesAll u.parts.reverse).filter D.isCut).length = (u.parts.map cutsN).sum := by rw [nodesAll_cuts, List.map_reverse, sum_rev]
  by_cases c : u.isCut = true
  · rw [if_pos c, if_pos c, List.length_cons, e]
    show _ = 1 + (u.parts.map cutsN).sum
    omega
  · rw [if_neg c, if_neg c, e]
    show _ = 0 + (u.parts.map cutsN).sum
    omega
theorem ints_sum (l : List Nat) : ((l.map fun n : Nat => (n : Int)).sum : Int) = ((l.sum : Nat) : Int) := by
  induction l with
  | nil => rfl
  | cons a r ih => rw [List.map_cons, List.sum_cons, List.sum_cons, ih]; omega
section
variable {P : Program} {w : World} {K : Frag} {mg : Str → Option Value} {base : Heap}
theorem ok_inner {f : Addr} {fd : FuncData} (T : Top K mg "_law_inner" sLInner pLInner f fd) (B : Blt mg) : FnOk P w K mg base CX0 1 f fd pLInner spInner := by
  refine T.F.ok scLInner (fun vs H Q E h => ?_) (fun cdv A outer s H vs Q E hr h => ?_)
  · obtain ⟨_, _, rfl, _⟩ := h
    rfl
  · obtain ⟨v, u, rfl, hd, f0, hz, htp, k⟩ := h
    refine ⟨_, pss_one (ps_ret (pe_ifExp (pt_cmpR op_ne (pe_ix ix_tup (pv 0) pe_int (fun _ _ => rfl)) pe_str (nomark _)) (pe_lc (own := [("part", 1)]) (g := gName 1) rfl scLInner.nd (pi_tup (pe_slice sl_tup (pv 0) (po_some pe_int) po_none)) (blkOk_by (N := nLInner) (sc := defScope sLInner) (by decide +kernel)) (fun _ _ _ _ _ => pg_name (i := 1) scLInner.nd rfl (Or.inl rfl)) (fun _ _ _ _ _ => pts_one (pt_val (pe_callB (show CallR _ (.builtin "isinstance") (rIsi K) from call_isi) (by rfl) B.isi (by decide +kernel) (pa_cons (pv 1) (pa_cons (pe_bltn (v := .ty "tuple") (by rfl) B.tuple (by decide +kernel) rfl) pa_nil))))) (fun _ _ _ _ _ => (pv 1))) (pe_lst pa_nil))), ?_⟩
    obtain ⟨nm, r, rfl, okn, _⟩ := f0.head
    cases hd with
    | @t p xs _ e h =>
      cases h with
      | @cons x0 xs _ _ h0 h =>
        cases h0
        refine ⟨_, rfl, p, _, _, _, rfl, rfl, SqT.of e, atI_nat (j := 0) rfl, rfl, _, rfl, ?_⟩
        rw [strEq]
        by_cases c : nm = "is"
        · rw [decide_eq_true c]
          have ep : (D.t (.s nm :: r)).parts = [] := by
            subst c
            generalize hu : D.t (.s "is" :: r) = u at f0 ⊢
            cases f0 with
            | is _ => injection hu with hu; injection hu with _ hu; subst hu; simp [D.parts]
            | _ => exact absurd hu (by simp)
          rw [ep] at k
          exact iteF ⟨by show 0 ≤ sizeLine; exact Nat.zero_le _, fun W hW => k W [] _ (same_upd hW) hW upd_same .nil⟩
        · rw [decide_eq_false c]
          have ep := filt_parts f0 htp c
          rw [← ep] at k
          have hne : ¬ (HT.sIx (V.str nm :: xs).length 0 (some 1) = 0 ∧ HT.sIx (V.str nm :: xs).length (V.str nm :: xs).length none = (V.str nm :: xs).length) := by
            rintro ⟨z, _⟩
            have q := HT.sIx_nat (V.str nm :: xs).length 0 1
            rw [show (some (1 : Int)) = some ((1 : Nat) : Int) from rfl, q] at z
            simp only [List.length_cons] at z
            omega
          refine iteT ⟨_, rfl, _, rfl, p, _, rfl, SqT.of e, hne, fun q nq => ?_⟩
          have e1 : cutV (V.str nm :: xs) (some 1) none = xs := cutV_from (b := 1)
          rw [e1]
          have s1 := same_upd (o := .tup xs) nq
          refine ⟨q, rfl, ⟨_, SqT.of upd_same⟩, fun W hW => ?_⟩
          have s2 := same_upd (o := .lst []) hW
          have eq2 := s2 _ _ (upd_same (H := H) (a := q) (o := .tup xs))
          have lx := h.length
          refine lc_tup (K := K) (xs := xs) (fun i H' => Same (upd H q (.tup xs)) H' ∧ ∃ ys, H' W = some (.lst ys) ∧ DsAt H' ys ((r.take i).filter D.isTup)) ⟨s2, [], upd_same, by rw [List.take_zero]; exact .nil⟩ (fun i H' _ z => SqT.of (z.1 _ _ upd_same)) ?_ ?_
          · rintro i x H' hx ⟨sI, ys, eW, hys⟩
            obtain ⟨u, hu, hxu⟩ := h.at_ hx
            obtain ⟨hi, _⟩ := List.getElem?_eq_some_iff.mp hu
            have fs := filter_snoc5 D.isTup r i u hu
            have hxu' := hxu.mono (TK.of_same (s1.trans sI))
            have ly := hys.length
            refine ⟨rfl, _, rfl, _, _, _, _, u.isTup, rfl, .ty "tuple", hxu'.tyx, u.ktup, _, rfl, ?_⟩
            cases ht : u.isTup with
            | true =>
              have lf := List.length_filter_le D.isTup (r.take i)
              rw [List.length_take] at lf
              refine iteT ⟨_, rfl, ys, eW, ?_, same_over sI hW, ys ++ [x], upd_same, ?_⟩
              · have lr := len_size r
                have hz' : 1 + sizeAll r + 1 ≤ 40000 := by
                  have q : (D.t (.s nm :: r)).size = 1 + sizeAll r + 1 := by simp only [D.size, sizeAll]
                  omega
                rw [ly, sizeLine_eq]
                omega
              · rw [fs, if_pos ht]
                exact (hys.mono (TK.upd_lst eW)).append (.cons (hxu'.mono (TK.upd_lst eW)) .nil)
            | false =>
              refine iteF ⟨sI, ys, eW, ?_⟩
              rw [fs, if_neg (by rw [ht]; decide)]
              exact hys
          · rintro H' ⟨sI, ys, eW, hys⟩
            rw [lx, List.take_length] at hys
            exact k W ys H' (s1.trans sI) (s1.free hW) eW hys
def spLKnots (n : Nat) : Sp := fun vs H Q _ => ∃ v u, vs = [v] ∧ DAt H v u ∧ u.tl.isSome = true ∧ u.dep ≤ n ∧ u.size ≤ 40000 ∧ ∀ H', Same H H' → Q (.int (u.nodes.length : Nat)) H'
theorem dep_lt {u : D} (f : Fm u) : ∀ p ∈ u.parts, p.dep + 1 ≤ u.dep := by
  have e1 : ("over made" : Str) ≠ "is" := by decide
  have e2 : ("under made" : Str) ≠ "is" := by decide
  have e3 : ("then made" : Str) ≠ "then used" := by decide
  cases f <;> simp [D.parts, D.dep, depAll, e1, e2, e3] <;> omega
def spLCuts (n : Nat) : Sp := fun vs H Q _ => ∃ v u, vs = [v] ∧ DAt H v u ∧ u.tl.isSome = true ∧ u.dep ≤ n ∧ u.size ≤ 40000 ∧ ∀ H', Same H H' → Q (.int (cutsN u : Nat)) H'
theorem lcuts_step {f fi : Addr} {fd fdi : FuncData} (T : Top K mg "_law_many_cuts" sLManyCuts pLManyCuts f fd) (TI : Top K mg "_law_inner" sLInner pLInner fi fdi) (B : Blt mg) {n m : Nat} (hm : 1 ≤ m) {sp' : Sp} (GP : FnOk P w K mg base CX0 m f fd pLManyCuts sp')
    (hsp : ∀ v u H Q, DAt H v u → u.tl.isSome = true → u.dep + 1 ≤ n → u.size ≤ 40000 → (∀ H', Same H H' → Q (.int (cutsN u : Nat)) H') → sp' [v] H Q L2.E0) : FnOk P w K mg base CX0 (m + 1) f fd pLManyCuts (spLCuts n) := by
  have GI : FnOk P w K mg base CX0 1 fi fdi pLInner spInner := ok_inner TI B
  refine T.F.ok scLManyCuts (fun vs H Q E h => ?_) (fun cdv A outer s H vs Q E hr h => ?_)
  · obtain ⟨_, _, rfl, _⟩ := h
    rfl
  · obtain ⟨v, u, rfl, hd, hs, hn, hz, k⟩ := h
    have hr1 : Room 1 _ := hr.mono hm
    obtain ⟨r, er⟩ := Option.isSome_iff_exists.mp hs
    obtain ⟨f0, _⟩ := allK_fm (tl_allK u.size u r (Nat.le_refl _) er)
    have hps := tl_parts er
    refine ⟨_, pss_one (ps_ret (pe_op op_add (pe_ifExp (pt_cmpR op_eq (pe_ix ix_tup (pv 0) pe_int (fun _ _ => rfl)) pe_str (nomark _)) pe_int pe_int) (pe_callB (cr_sum rfl) (by rfl) B.sum (by decide +kernel) (pa_cons (pe_lc (own := [("part", 1)]) (g := gName 1) (tt := tYes) rfl scLManyCuts.nd (pi_list (pe_call GI hr1 rfl TI.g TI.F.kp TI.b .nil pass0 (pa_cons (pv 0) pa_nil))) (blkOk_by (N := nLManyCuts) (sc := defScope sLManyCuts) (by decide +kernel)) (fun _ _ _ _ _ => pg_name (i := 1) scLManyCuts.nd rfl (Or.inl rfl)) (fun _ _ _ _ _ => pts_nil) (fun _ _ _ _ _ => (pe_call GP hr rfl T.g T.F.kp T.b .nil pass0 (pa_cons (pv 1) pa_nil)))) pa_nil)))), ?_⟩
    obtain ⟨nm, rr, rfl, okn, _⟩ := f0.head
    have hd0 := hd
    cases hd with
    | @t p xs _ e h =>
      cases h with
      | @cons x0 xs _ _ h0 h =>
        cases h0
        refine ⟨_, rfl, p, _, _, _, rfl, rfl, SqT.of e, atI_nat (j := 0) rfl, rfl, _, rfl, ?_⟩
        rw [strEq]
        have ec : (D.t (.s nm :: rr)).isCut = decide (nm = "cut") := rfl
        obtain ⟨ps, pl⟩ := f0.psize
        have e1 : ∀ c0 : Int, c0 = (if (D.t (.s nm :: rr)).isCut = true then 1 else 0) → c0 + ((D.t (.s nm :: rr)).parts.map fun p => ((cutsN p : Nat) : Int)).sum = ((cutsN (.t (.s nm :: rr)) : Nat) : Int) := fun c0 hc => by
          rw [cuts_sum f0, hc]
          have q := ints_sum ((D.t (.s nm :: rr)).parts.map cutsN)
          rw [List.map_map] at q
          have q' : ((D.t (.s nm :: rr)).parts.map fun p => ((cutsN p : Nat) : Int)).sum = _ := q
          rw [q']
          split <;> omega
        by_cases c : nm = "cut"
        · rw [decide_eq_true c]
          refine iteT ?_
          refine ⟨_, rfl, .ref p, .t (.s nm :: rr), rfl, hd0, f0, hz, fun p hp => tl_tup (hps p hp), fun L us H1 s1 nL eL hU => ⟨L, rfl, ⟨_, SqL.of eL⟩, fun W hW => ?_⟩⟩
          have lU := hU.length
          refine lc_list (K := K) (xs := us) (fun i H' => Same H1 H' ∧ H' W = some (.lst (((D.t (.s nm :: rr)).parts.take i).map fun p => V.int (cutsN p : Nat)))) ⟨same_upd hW, by rw [upd_same, List.take_zero]; rfl⟩ (fun i H' _ z => SqL.of (z.1 _ _ eL)) ?_ ?_
          · rintro i x H' hx ⟨sI, eW⟩
            obtain ⟨p, hp, hxp⟩ := hU.at_ hx
            have mp := List.mem_of_getElem? hp
            have d1 := dep_lt f0 p mp
            have z1 := size_mem mp
            refine ⟨rfl, x, rfl, hsp x p _ _ (hxp.mono (TK.of_same sI)) (hps p mp) (by omega) (by omega) fun H2 s2 => ⟨_, s2 _ _ eW, by rw [List.length_map, List.length_take, sizeLine_eq]; omega, same_over (sI.trans s2) hW, ?_⟩⟩
            rw [upd_same, List.take_add_one, hp, List.map_append]
            rfl
          · rintro H' ⟨sI, eW⟩
            rw [lU, List.take_length] at eW
            refine ⟨W, (D.t (.s nm :: rr)).parts.map fun p => ((cutsN p : Nat) : Int), rfl, SqL.of (by rw [eW, List.map_map]; rfl), _, _, rfl, rfl, ?_⟩
            dsimp only
            rw [e1 1 (by rw [ec, decide_eq_true c]; rfl)]
            exact k _ (s1.trans sI)
        · rw [decide_eq_false c]
          refine iteF ?_
          refine ⟨_, rfl, .ref p, .t (.s nm :: rr), rfl, hd0, f0, hz, fun p hp => tl_tup (hps p hp), fun L us H1 s1 nL eL hU => ⟨L, rfl, ⟨_, SqL.of eL⟩, fun W hW => ?_⟩⟩
          have lU := hU.length
          refine lc_list (K := K) (xs := us) (fun i H' => Same H1 H' ∧ H' W = some (.lst (((D.t (.s nm :: rr)).parts.take i).map fun p => V.int (cutsN p : Nat)))) ⟨same_upd hW, by rw [upd_same, List.take_zero]; rfl⟩ (fun i H' _ z => SqL.of (z.1 _ _ eL)) ?_ ?_
          · rintro i x H' hx ⟨sI, eW⟩
            obtain ⟨p, hp, hxp⟩ := hU.at_ hx
            have mp := List.mem_of_getElem? hp
            have d1 := dep_lt f0 p mp
            have z1 := size_mem mp
            refine ⟨rfl, x, rfl, hsp x p _ _ (hxp.mono (TK.of_same sI)) (hps p mp) (by omega) (by omega) fun H2 s2 => ⟨_, s2 _ _ eW, by rw [List.length_map, List.length_take, sizeLine_eq]; omega, same_over (sI.trans s2) hW, ?_⟩⟩
            rw [upd_same, List.take_add_one, hp, List.map_append]
            rfl
          · rintro H' ⟨sI, eW⟩
            rw [lU, List.take_length] at eW
            refine ⟨W, (D.t (.s nm :: rr)).parts.map fun p => ((cutsN p : Nat) : Int), rfl, SqL.of (by rw [eW, List.map_map]; rfl), _, _, rfl, rfl, ?_⟩
            dsimp only
            rw [e1 0 (by rw [ec, decide_eq_false c]; rfl)]
            exact k _ (s1.trans sI)
theorem ok_lcuts {f fi : Addr} {fd fdi : FuncData} (T : Top K mg "_law_many_cuts" sLManyCuts pLManyCuts f fd) (TI : Top K mg "_law_inner" sLInner pLInner fi fdi) (B : Blt mg) : ∀ n : Nat, FnOk P w K mg base CX0 (2 + n) f fd pLManyCuts (spLCuts n)
  | 0 => lcuts_step (m := 1) T TI B (Nat.le_refl _) (fn_vac.mono (by omega)) fun _ _ _ _ _ _ h _ _ => absurd h (by omega)
  | n + 1 => lcuts_step (m := 2 + n) T TI B (by omega) (ok_lcuts T TI B n) fun v u H Q h1 h2 h3 h4 h5 => ⟨v, u, rfl, h1, h2, by omega, h4, h5⟩
end
end U6

namespace U6
open PySem PySem.Spec PyProof.Rows L2 LamX KT
open PySem.W (Frag)
/-- a type spelt out -/
def opD : Ty → D
  | .w z => .t [.s "is", .s z]
  | .n .ov a b => .t [.s "over made", .t [.s "over used", .i 0, opD b, opD a]]
  | .n .un a b => .t [.s "under made", .t [.s "under used", .i 0, opD a, opD b]]
  | .n .th a b => .t [.s "then used", .i 0, .t [.s "then made", opD a, opD b]]
theorem opD_tl (t : Ty) (h : t.wok) : (opD t).tl = some ([t], t) := by
  induction t with
  | w z =>
    exact tl_of (.is (k := .w z) (by simp only [D.ty]; rw [if_pos (isWB_of h)]))
  | n g a b i j =>
    have i := i h.1
    have j := j h.2
    cases g with
    | ov => exact tl_of (.om (rx := ([.n .ov a b, b], a)) (tl_of (.us (by decide) j i (by simp [usedAt]))) (by simp [madeO]))
    | un => exact tl_of (.um (rx := ([a, .n .un a b], b)) (tl_of (.us (by decide) i j (by simp [usedAt]))) (by simp [madeU]))
    | th => exact tl_of (.tu (ry := ([a, b], .n .th a b)) (tl_of (.tm i j)) (by simp [thenU, thenM]))
theorem opD_size (t : Ty) : (opD t).size = 8 * t.signs + 3 ∧ (opD t).dep ≤ 2 * t.signs + 1 := by
  induction t with
  | w z => simp [opD, D.size, sizeAll, D.dep, depAll, Ty.signs]
  | n g a b i j => cases g <;> simp only [opD, D.size, sizeAll, D.dep, depAll, Ty.signs] <;> omega
theorem txtIs (z : Str) (h : z = "is" ∨ z = "over made" ∨ z = "under made" ∨ z = "then made" ∨ z = "over used" ∨ z = "under used" ∨ z = "then used" ∨ z = "cut") : TxtOk z := by
  rcases h with h | h | h | h | h | h | h | h <;> subst h <;> exact ⟨by decide +kernel, by decide +kernel⟩
theorem dAt_is {H : Hp} {p : Addr} {x : V} {d : D} (e : H p = some (.tup [.str "is", x])) (h : DAt H x d) : DAt H (.ref p) (.t [.s "is", d]) := .t e (.cons (.s (txtIs _ (by simp))) (.cons h .nil))
theorem dAt_2 {H : Hp} {p : Addr} {nm : Str} {x : V} {d : D} (ok : TxtOk nm) (e : H p = some (.tup [.str nm, x])) (h : DAt H x d) : DAt H (.ref p) (.t [.s nm, d]) := .t e (.cons (.s ok) (.cons h .nil))
theorem dAt_3 {H : Hp} {p : Addr} {nm : Str} {x y : V} {d e' : D} (ok : TxtOk nm) (e : H p = some (.tup [.str nm, x, y])) (h : DAt H x d) (h' : DAt H y e') : DAt H (.ref p) (.t [.s nm, d, e']) := .t e (.cons (.s ok) (.cons h (.cons h' .nil)))
theorem dAt_4 {H : Hp} {p : Addr} {nm : Str} {i : Int} {x y : V} {d e' : D} (ok : TxtOk nm) (e : H p = some (.tup [.str nm, .int i, x, y])) (h : DAt H x d) (h' : DAt H y e') : DAt H (.ref p) (.t [.s nm, .i i, d, e']) := .t e (.cons (.s ok) (.cons (.i i) (.cons h (.cons h' .nil))))
section
variable {P : Program} {w : World} {K : Frag} {mg : Str → Option Value} {base : Heap}
def spOpened (n : Nat) : Sp := fun vs H Q _ => ∃ v t, vs = [v] ∧ TyAt H v t ∧ t.signs ≤ n ∧ ∀ v' H', Same H H' → DAt H' v' (opD t) → Q v' H'
theorem opened_step {f : Addr} {fd : FuncData} (T : Top K mg "_law_opened" sLOpened pLOpened f fd) (B : Blt mg) {n m : Nat} {sp' : Sp} (GP : FnOk P w K mg base CX0 m f fd pLOpened sp')
    (hsp : ∀ v t H Q, TyAt H v t → t.signs + 1 ≤ n → (∀ v' H', Same H H' → DAt H' v' (opD t) → Q v' H') → sp' [v] H Q L2.E0) : FnOk P w K mg base CX0 (m + 1) f fd pLOpened (spOpened n) := by
  refine T.F.ok scLOpened (fun vs H Q E h => ?_) (fun cdv A outer s H vs Q E hr h => ?_)
  · obtain ⟨_, _, rfl, _⟩ := h
    rfl
  · obtain ⟨v, t, rfl, ht, hn, k⟩ := h
    refine ⟨_, (pss_cons (ps_if (pt_val (pe_callB call_isi (by rfl) B.isi (by decide +kernel) (pa_cons (pv 0) (pa_cons (pe_bltn (v := .ty "str") (by rfl) B.str_ (by decide +kernel) rfl) pa_nil)))) (pss_one (ps_ret (pe_tup (pa_cons pe_str (pa_cons (pv 0) pa_nil))))) pss_nil)
      (pss_cons (ps_par (i := 1) (j := 2) rfl scLOpened.nd rfl rfl (by decide) rfl rfl (pa_cons (pe_call GP hr rfl T.g T.F.kp T.b .nil pass0 (pa_cons (pe_ix ix_tup (pv 0) pe_int (fun _ _ => rfl)) pa_nil)) (pa_cons (pe_call GP hr rfl T.g T.F.kp T.b .nil pass0 (pa_cons (pe_ix ix_tup (pv 0) pe_int (fun _ _ => rfl)) pa_nil)) pa_nil)) (by rfl))
      (pss_cons (ps_if (pt_cmpR op_eq (pe_ix ix_tup (pv 0) pe_int (fun _ _ => rfl)) pe_str (nomark _)) (pss_one (ps_ret (pe_tup (pa_cons pe_str (pa_cons (pe_tup (pa_cons pe_str (pa_cons pe_int (pa_cons (pv 2) (pa_cons (pv 1) pa_nil))))) pa_nil))))) pss_nil)
      (pss_one (ps_ret (pe_ifExp (pt_cmpR op_eq (pe_ix ix_tup (pv 0) pe_int (fun _ _ => rfl)) pe_str (nomark _)) (pe_tup (pa_cons pe_str (pa_cons (pe_tup (pa_cons pe_str (pa_cons pe_int (pa_cons (pv 1) (pa_cons (pv 2) pa_nil))))) pa_nil))) (pe_tup (pa_cons pe_str (pa_cons pe_int (pa_cons (pe_tup (pa_cons pe_str (pa_cons (pv 1) (pa_cons (pv 2) pa_nil)))) pa_nil)))))))))), ?_⟩
    cases ht with
    | @w z h =>
      refine ⟨_, rfl, _, _, _, _, true, rfl, .ty "str", .base (.str z), kit_ty (by decide +kernel), true, rfl, iteT ⟨_, rfl, by show 2 ≤ sizeLine; rw [sizeLine_eq]; omega, fun p np => ?_⟩⟩
      exact k _ _ (same_upd np) (dAt_is upd_same (.s (isW_ok h)))
    | @n p g x y a b e h1 h2 =>
      have hn' : 1 + a.signs + b.signs ≤ n := hn
      refine ⟨_, rfl, _, _, _, _, false, rfl, .ty "str", .base (.tup e), kit_ty (by decide +kernel), false, rfl, iteF ?_⟩
      refine ⟨_, rfl, p, _, _, _, rfl, rfl, SqT.of e, atI_nat (j := 1) rfl, hsp x a _ _ h1 (by omega) fun v1 H1 s1 d1 => ?_⟩
      refine ⟨_, rfl, p, _, _, _, rfl, rfl, SqT.of (s1 _ _ e), atI_nat (j := 2) rfl, hsp y b _ _ (h2.mono (TK.of_same s1)) (by omega) fun v2 H2 s2 d2 => ⟨_, _, rfl, ?_⟩⟩
      have e2 := s2 _ _ (s1 _ _ e)
      have d1' := d1.mono (TK.of_same s2)
      have s12 := s1.trans s2
      refine ⟨_, rfl, p, _, _, _, rfl, rfl, SqT.of e2, atI_nat (j := 0) rfl, rfl, _, rfl, ?_⟩
      cases g with
      | ov =>
        refine iteT ⟨_, rfl, _, rfl, by show 4 ≤ sizeLine; rw [sizeLine_eq]; omega, fun q1 n1 => ⟨by show 2 ≤ sizeLine; rw [sizeLine_eq]; omega, fun q2 n2 => ?_⟩⟩
        have sa := same_upd (o := .tup [.str "over used", .int 0, v2, v1]) n1
        have sb := same_upd (o := .tup [.str "over made", .ref q1]) n2
        have tk := TK.of_same (sa.trans sb)
        exact k _ _ (s12.trans (sa.trans sb)) (dAt_2 (txtIs _ (by simp)) upd_same (dAt_4 (txtIs _ (by simp)) (sb _ _ upd_same) (d2.mono tk) (d1'.mono tk)))
      | un =>
        refine iteF ⟨_, rfl, p, _, _, _, rfl, rfl, SqT.of e2, atI_nat (j := 0) rfl, rfl, _, rfl, iteT ⟨_, rfl, _, rfl, by show 4 ≤ sizeLine; rw [sizeLine_eq]; omega, fun q1 n1 => ⟨by show 2 ≤ sizeLine; rw [sizeLine_eq]; omega, fun q2 n2 => ?_⟩⟩⟩
        have sa := same_upd (o := .tup [.str "under used", .int 0, v1, v2]) n1
        have sb := same_upd (o := .tup [.str "under made", .ref q1]) n2
        have tk := TK.of_same (sa.trans sb)
        exact k _ _ (s12.trans (sa.trans sb)) (dAt_2 (txtIs _ (by simp)) upd_same (dAt_4 (txtIs _ (by simp)) (sb _ _ upd_same) (d1'.mono tk) (d2.mono tk)))
      | th =>
        refine iteF ⟨_, rfl, p, _, _, _, rfl, rfl, SqT.of e2, atI_nat (j := 0) rfl, rfl, _, rfl, iteF ⟨_, rfl, _, rfl, by show 3 ≤ sizeLine; rw [sizeLine_eq]; omega, fun q1 n1 => ⟨by show 3 ≤ sizeLine; rw [sizeLine_eq]; omega, fun q2 n2 => ?_⟩⟩⟩
        have sa := same_upd (o := .tup [.str "then made", v1, v2]) n1
        have sb := same_upd (o := .tup [.str "then used", .int 0, .ref q1]) n2
        have tk := TK.of_same (sa.trans sb)
        exact k _ _ (s12.trans (sa.trans sb)) (dAt_3 (txtIs _ (by simp)) upd_same (.i 0) (dAt_3 (txtIs _ (by simp)) (sb _ _ upd_same) (d1'.mono tk) (d2.mono tk)))
theorem ok_opened {f : Addr} {fd : FuncData} (T : Top K mg "_law_opened" sLOpened pLOpened f fd) (B : Blt mg) : ∀ n : Nat, FnOk P w K mg base CX0 (1 + n) f fd pLOpened (spOpened n)
  | 0 => opened_step T B fn_vac fun _ _ _ _ _ h _ => absurd h (by omega)
  | n + 1 => opened_step (m := 1 + n) T B (ok_opened T B n) fun v t H Q h1 h2 h3 => ⟨v, t, rfl, h1, by omega, h3⟩
end
end U6

namespace U6
open PySem PySem.Spec PyProof.Rows L2 LamX KT
open PySem.W (Frag)
mutual
theorem D.ty_wok : ∀ {d : D} {t : Ty}, d.ty = some t → t.wok
  | .s z, t, h => by
    simp only [D.ty] at h
    split at h
    · rename_i q
      cases h
      exact isWB_ok q
    · cases h
  | .i _, t, h => by simp only [D.ty] at h; cases h
  | .o, t, h => by simp only [D.ty] at h; cases h
  | .t l, t, h => by
    simp only [D.ty] at h
    obtain ⟨g, x, y, a, b, rfl, ⟨o, hr⟩, rfl⟩ := mkTy_inv h
    simp only [tyAll] at hr
    injection hr with _ hr
    injection hr with e1 hr
    injection hr with e2 _
    have q := tyAll_wok [.s (Sg.str g), x, y]
    exact ⟨q 1 _ _ rfl e1, q 2 _ _ rfl e2⟩
theorem tyAll_wok : ∀ (ds : List D) (j : Nat) (d : D) (t : Ty), ds[j]? = some d → d.ty = some t → t.wok
  | [], j, d, t, h, e => by simp at h
  | x :: ds, 0, d, t, h, e => by
    obtain rfl := Option.some.inj (show some _ = some _ from h)
    exact D.ty_wok e
  | x :: ds, j + 1, d, t, h, e => tyAll_wok ds j d t (by simpa using h) e
end
theorem split_at {α : Type} {l : List α} {p : Nat} {k : α} (h : l[p]? = some k) : l = l.take p ++ k :: l.drop (p + 1) ∧ (l.take p).length = p := by
  obtain ⟨h1, h2⟩ := List.getElem?_eq_some_iff.mp h
  refine ⟨?_, by rw [List.length_take]; omega⟩
  have e : l.drop p = k :: l.drop (p + 1) := by rw [List.drop_eq_getElem_cons h1, h2]
  rw [← e, List.take_append_drop]
def midOf (nm : Str) (k : Ty) (x : Told) : List Ty := if nm = "over used" then [.n .ov k x.2] ++ x.1 else if nm = "under used" then x.1 ++ [.n .un x.2 k] else x.1
theorem usedAt_inv {nm : Str} {p : Int} {x y r : Told} (h : usedAt nm p x y = some r) : ∃ A k B, y.1 = A ++ k :: B ∧ p = (A.length : Int) ∧ r = (A ++ midOf nm k x ++ B, y.2) ∧ (nm ≠ "over used" → nm ≠ "under used" → k = x.2) := by
  unfold usedAt at h
  split at h
  · rename_i c
    split at h
    · cases h
    · rename_i k e
      obtain ⟨e1, e2⟩ := split_at e
      refine ⟨_, k, _, e1, by rw [e2]; omega, ?_, ?_⟩
      · unfold midOf
        split at h
        · rename_i c1
          rw [if_pos c1]
          rw [← Option.some.inj h]
          simp
        · rename_i c1
          rw [if_neg c1]
          split at h
          · rename_i c2
            rw [if_pos c2]
            rw [← Option.some.inj h]
            simp
          · rename_i c2
            rw [if_neg c2]
            split at h
            · rw [← Option.some.inj h]
            · cases h
      · intro n1 n2
        rw [if_neg n1, if_neg n2] at h
        split at h
        · assumption
        · cases h
  · cases h
theorem thenU_inv {p : Int} {y r : Told} (h : thenU p y = some r) : ∃ A a b B, y.1 = A ++ a :: b :: B ∧ p = (A.length : Int) ∧ r = (A ++ .n .th a b :: B, y.2) := by
  unfold thenU at h
  split at h
  · rename_i c
    split at h
    · rename_i a b e1 e2
      obtain ⟨q1, q2⟩ := split_at e1
      obtain ⟨q3, q4⟩ := split_at e2
      have q5 : y.1.drop (p.toNat + 1) = b :: y.1.drop (p.toNat + 2) := by
        obtain ⟨h1, h2⟩ := List.getElem?_eq_some_iff.mp e2
        rw [List.drop_eq_getElem_cons h1, h2]
      rw [q5] at q1
      refine ⟨_, a, b, _, q1, by rw [q2]; omega, ?_⟩
      rw [← Option.some.inj h]
      simp
    · cases h
  · cases h
theorem madeO_inv {x r : Told} (h : madeO x = some r) : ∃ A a z, x.1 = a :: (A ++ [z]) ∧ r = (a :: A, .n .ov x.2 z) := by
  obtain ⟨row, g⟩ := x
  unfold madeO at h
  simp only at h
  split at h
  · cases h
  · rename_i c
    rw [← Option.some.inj h]
    match row, c with
    | [], c => simp at c
    | [a], c => simp at c
    | a :: b :: r, _ =>
      refine ⟨(b :: r).dropLast, a, (b :: r).getLast (by simp), by rw [List.dropLast_concat_getLast], ?_⟩
      simp [List.getLastD_cons]
      try rfl
theorem madeU_inv {x r : Told} (h : madeU x = some r) : ∃ a b B, x.1 = a :: b :: B ∧ r = (b :: B, .n .un a x.2) := by
  obtain ⟨row, g⟩ := x
  unfold madeU at h
  split at h
  · rename_i a b B g' e
    injection e with e1 e2
    subst e1
    subst e2
    exact ⟨a, b, B, rfl, (Option.some.inj h).symm⟩
  · cases h
theorem placed_cases {nm : Str} (h : placed nm = true) : nm = "over used" ∨ nm = "under used" ∨ nm = "cut" := by
  unfold placed at h
  rw [Bool.or_eq_true, Bool.or_eq_true, decide_eq_true_eq, decide_eq_true_eq, decide_eq_true_eq] at h
  rcases h with (e | e) | e
  · exact .inl e
  · exact .inr (.inl e)
  · exact .inr (.inr e)
theorem mem_nodesAll {x : D} : ∀ {l : List D}, x ∈ nodesAll l → ∃ p ∈ l, x ∈ p.nodes
  | [], h => by cases h
  | d :: r, h => by
    rcases List.mem_append.mp h with h | h
    · exact ⟨d, List.mem_cons_self, h⟩
    · obtain ⟨p, hp, hx⟩ := mem_nodesAll h
      exact ⟨p, List.mem_cons_of_mem _ hp, hx⟩
/-- the type at a leaf -/
def leafTy : D → Option Ty
  | .t [.s nm, x] => if nm = "is" then x.ty else none
  | _ => none
def leaves (d : D) : List Ty := d.nodes.filterMap leafTy
theorem leafTy_not {nm : Str} {l : List D} (h : nm ≠ "is") : leafTy (.t (.s nm :: l)) = none := by
  unfold leafTy
  split
  · rename_i e
    injection e with e
    injection e with e _
    injection e with e
    rw [if_neg (by rw [← e]; exact h)]
  · rfl
/-- the leaves of a knot that is none -/
theorem leaves_mem {nm : Str} {l : List D} {r : Told} (h : (D.t (.s nm :: l)).tl = some r) (hne : nm ≠ "is") (t : Ty) : t ∈ leaves (.t (.s nm :: l)) ↔ ∃ p ∈ (D.t (.s nm :: l)).parts, t ∈ leaves p := by
  have f := (allK_fm (tl_allK _ _ r (Nat.le_refl _) h)).1
  unfold leaves
  rw [f.nodes, List.filterMap_cons_none (leafTy_not hne)]
  constructor
  · intro ht
    obtain ⟨u, hu, e⟩ := List.mem_filterMap.mp ht
    obtain ⟨p, hp, hx⟩ := mem_nodesAll hu
    exact ⟨p, List.mem_reverse.mp hp, List.mem_filterMap.mpr ⟨u, hx, e⟩⟩
  · rintro ⟨p, hp, ht⟩
    obtain ⟨u, hu, e⟩ := List.mem_filterMap.mp ht
    refine List.mem_filterMap.mpr ⟨u, ?_, e⟩
    have key : ∀ l : List D, p ∈ l → u ∈ nodesAll l := by
      intro l
      induction l with
      | nil => intro q; cases q
      | cons d r ih =>
        intro q
        rw [nodesAll]
        rcases List.mem_cons.mp q with rfl | q
        · exact List.mem_append.mpr (.inl hu)
        · exact List.mem_append.mpr (.inr (ih q))
    exact key _ (List.mem_reverse.mpr hp)
theorem leaves_is {x : D} {k : Ty} (h : x.ty = some k) : leaves (.t [.s "is", x]) = [k] := by
  have f : Fm (.t [.s "is", x]) := .is (by unfold D.isKd; rw [h]; rfl)
  unfold leaves
  rw [f.nodes, List.filterMap_cons_some (show leafTy (.t [.s "is", x]) = some k by simp [leafTy, h])]
  simp [D.parts, nodesAll]
/-- all words of the leaves are among these -/
def LWd (zs : List Str) (u : D) : Prop := ∀ k ∈ leaves u, ∀ z ∈ k.words, z ∈ zs
theorem lwd_is {zs : List Str} {x : D} {k : Ty} (h : x.ty = some k) (hw : ∀ z ∈ k.words, z ∈ zs) : LWd zs (.t [.s "is", x]) := fun k' hk => by
  rw [leaves_is h, List.mem_singleton] at hk
  rw [hk]; exact hw
theorem lwd_of {zs : List Str} {nm : Str} {l : List D} {r : Told} (h : (D.t (.s nm :: l)).tl = some r) (hne : nm ≠ "is") (hp : ∀ p ∈ (D.t (.s nm :: l)).parts, LWd zs p) : LWd zs (.t (.s nm :: l)) := fun k hk => by
  obtain ⟨p, h1, h2⟩ := (leaves_mem h hne k).mp hk
  exact hp p h1 k h2
theorem lwd_part {zs : List Str} {nm : Str} {l : List D} {r : Told} (h : (D.t (.s nm :: l)).tl = some r) (hne : nm ≠ "is") (hw : LWd zs (.t (.s nm :: l))) : ∀ p ∈ (D.t (.s nm :: l)).parts, LWd zs p := fun p hp k hk => hw k ((leaves_mem h hne k).mpr ⟨p, hp, hk⟩)
theorem lwd_1 {zs : List Str} {nm : Str} {x : D} {r : Told} (h : (D.t [.s nm, x]).tl = some r) (hne : nm ≠ "is") (hx : LWd zs x) : LWd zs (.t [.s nm, x]) := lwd_of h hne fun p hp => by
  simp only [D.parts, if_neg hne, List.mem_singleton] at hp
  rw [hp]; exact hx
theorem lwd_tu {zs : List Str} {p : D} {x : D} {r : Told} (h : (D.t [.s "then used", p, x]).tl = some r) (hx : LWd zs x) : LWd zs (.t [.s "then used", p, x]) := lwd_of h (by decide) fun q hq => by
  simp only [D.parts, if_pos, List.mem_singleton] at hq
  rw [hq]; exact hx
theorem lwd_tm {zs : List Str} {x y : D} {r : Told} (h : (D.t [.s "then made", x, y]).tl = some r) (hx : LWd zs x) (hy : LWd zs y) : LWd zs (.t [.s "then made", x, y]) := lwd_of h (by decide) fun q hq => by
  have e : ("then made" : Str) ≠ "then used" := by decide
  simp only [D.parts, if_neg e, List.mem_cons, List.not_mem_nil, or_false] at hq
  rcases hq with e | e
  · rw [e]; exact hx
  · rw [e]; exact hy
theorem ne_is4 {nm : Str} {p : Int} {x y : D} {r : Told} (h : (D.t [.s nm, .i p, x, y]).tl = some r) : nm ≠ "is" := by
  cases tl_inv h with
  | us c _ _ _ => rcases placed_cases c with e | e | e <;> rw [e] <;> decide
theorem lwd_4 {zs : List Str} {nm : Str} {p : Int} {x y : D} {r : Told} (h : (D.t [.s nm, .i p, x, y]).tl = some r) (hx : LWd zs x) (hy : LWd zs y) : LWd zs (.t [.s nm, .i p, x, y]) := lwd_of h (ne_is4 h) fun q hq => by
  simp only [D.parts, List.mem_cons, List.not_mem_nil, or_false] at hq
  rcases hq with e | e
  · rw [e]; exact hx
  · rw [e]; exact hy
theorem lwd_op {zs : List Str} : ∀ {t : Ty}, t.wok → (∀ z ∈ t.words, z ∈ zs) → LWd zs (opD t)
  | .w z, h, hw => lwd_is (k := .w z) (by simp only [D.ty]; rw [if_pos (isWB_of h)]) hw
  | .n g a b, h, hw => by
    have i := lwd_op h.1 fun z hz => hw z (by simp only [Ty.words, List.mem_append]; exact .inl hz)
    have j := lwd_op h.2 fun z hz => hw z (by simp only [Ty.words, List.mem_append]; exact .inr hz)
    have q := opD_tl (.n g a b) h
    have ta := opD_tl a h.1
    have tb := opD_tl b h.2
    cases g with
    | ov =>
      obtain ⟨rx, h1, _⟩ : ∃ rx, (D.t [.s "over used", .i 0, opD b, opD a]).tl = some rx ∧ True := by
        cases tl_inv q with
        | om h1 h2 => exact ⟨_, h1, trivial⟩
      exact lwd_1 q (by decide) (lwd_4 h1 j i)
    | un =>
      obtain ⟨rx, h1, _⟩ : ∃ rx, (D.t [.s "under used", .i 0, opD a, opD b]).tl = some rx ∧ True := by
        cases tl_inv q with
        | um h1 h2 => exact ⟨_, h1, trivial⟩
      exact lwd_1 q (by decide) (lwd_4 h1 i j)
    | th => exact lwd_tu q (lwd_tm (tl_of (.tm ta tb)) i j)
/-- the words of what is told are words of the leaves -/
theorem told_words {zs : List Str} : ∀ (n : Nat) (u : D) (r : Told), u.size ≤ n → u.tl = some r → LWd zs u → (∀ t ∈ r.1, ∀ z ∈ t.words, z ∈ zs) ∧ ∀ z ∈ r.2.words, z ∈ zs := by
  intro n
  induction n with
  | zero => intro u r h; have := u.size_pos; omega
  | succ n ih =>
    intro u r hz h hw
    cases tl_inv h with
    | @is x k hk =>
      have q := hw k (by rw [leaves_is hk]; exact List.mem_cons_self)
      exact ⟨fun t ht => by rw [List.mem_singleton.mp ht]; exact q, q⟩
    | @om x rx _ h1 h2 =>
      simp only [D.size, sizeAll] at hz
      obtain ⟨a1, a2⟩ := ih x rx (by omega) h1 (lwd_part h (by decide) hw x (by simp [D.parts]))
      obtain ⟨A, a, z0, e1, rfl⟩ := madeO_inv h2
      rw [e1] at a1
      refine ⟨fun t ht => a1 t ?_, fun z hz => ?_⟩
      · rcases List.mem_cons.mp ht with e | ht
        · rw [e]; exact List.mem_cons_self
        · exact List.mem_cons_of_mem _ (List.mem_append.mpr (.inl ht))
      · simp only [Ty.words, List.mem_append] at hz
        rcases hz with hz | hz
        · exact a2 z hz
        · exact a1 z0 (by simp) z hz
    | @um x rx _ h1 h2 =>
      simp only [D.size, sizeAll] at hz
      obtain ⟨a1, a2⟩ := ih x rx (by omega) h1 (lwd_part h (by decide) hw x (by simp [D.parts]))
      obtain ⟨a, b, B, e1, rfl⟩ := madeU_inv h2
      rw [e1] at a1
      refine ⟨fun t ht => a1 t (List.mem_cons_of_mem _ ht), fun z hz => ?_⟩
      simp only [Ty.words, List.mem_append] at hz
      rcases hz with hz | hz
      · exact a1 a List.mem_cons_self z hz
      · exact a2 z hz
    | @tm x y rx ry h1 h2 =>
      simp only [D.size, sizeAll] at hz
      obtain ⟨a1, a2⟩ := ih x rx (by omega) h1 (lwd_part h (by decide) hw x (by simp [D.parts]))
      obtain ⟨b1, b2⟩ := ih y ry (by omega) h2 (lwd_part h (by decide) hw y (by simp [D.parts]))
      refine ⟨fun t ht => (List.mem_append.mp ht).elim (a1 t) (b1 t), fun z hz => ?_⟩
      simp only [thenM, Ty.words, List.mem_append] at hz
      exact hz.elim (a2 z) (b2 z)
    | @tu p y ry _ h1 h2 =>
      simp only [D.size, sizeAll] at hz
      obtain ⟨b1, b2⟩ := ih y ry (by omega) h1 (lwd_part h (by decide) hw y (by simp [D.parts]))
      obtain ⟨A, a, b, B, e1, e2, rfl⟩ := thenU_inv h2
      rw [e1] at b1
      refine ⟨fun t ht z hz => ?_, b2⟩
      simp only [List.mem_append, List.mem_cons] at ht
      rcases ht with ht | rfl | ht
      · exact b1 t (by simp [ht]) z hz
      · simp only [Ty.words, List.mem_append] at hz
        rcases hz with hz | hz
        · exact b1 a (by simp) z hz
        · exact b1 b (by simp) z hz
      · exact b1 t (by simp [ht]) z hz
    | @us nm p x y rx ry _ c h1 h2 h3 =>
      simp only [D.size, sizeAll] at hz
      have hne : nm ≠ "is" := by rcases placed_cases c with e | e | e <;> rw [e] <;> decide
      obtain ⟨a1, a2⟩ := ih x rx (by omega) h1 (lwd_part h hne hw x (by simp [D.parts]))
      obtain ⟨b1, b2⟩ := ih y ry (by omega) h2 (lwd_part h hne hw y (by simp [D.parts]))
      obtain ⟨A, k, B, e1, e2, rfl, hk⟩ := usedAt_inv h3
      rw [e1] at b1
      have bk := b1 k (by simp)
      refine ⟨fun t ht z hz => ?_, b2⟩
      simp only [List.mem_append] at ht
      rcases ht with (ht | ht) | ht
      · exact b1 t (by simp [ht]) z hz
      · unfold midOf at ht
        split at ht
        · simp only [List.cons_append, List.nil_append, List.mem_cons] at ht
          rcases ht with rfl | ht
          · simp only [Ty.words, List.mem_append] at hz
            exact hz.elim (bk z) (a2 z)
          · exact a1 t ht z hz
        · split at ht
          · simp only [List.mem_append, List.mem_singleton] at ht
            rcases ht with ht | rfl
            · exact a1 t ht z hz
            · simp only [Ty.words, List.mem_append] at hz
              exact hz.elim (a2 z) (bk z)
          · exact a1 t ht z hz
      · exact b1 t (by simp [ht]) z hz
end U6

namespace U6
open PySem PySem.Spec PyProof.Rows L2 LamX KT
open PySem.W (Frag)
theorem ty_dep_small (t : Ty) : t.d.dep ≤ t.signs ∧ t.d.size ≤ 4 * t.signs + 1 := by
  induction t with
  | w z => simp [Ty.d, D.dep, D.size, Ty.signs]
  | n g a b i j => simp only [Ty.d, D.dep, depAll, D.size, sizeAll, Ty.signs]; omega
theorem DAt.but {a : Addr} {n : Nat} {H H' : Hp} {v : V} {d : D} (h : DAt H v d) (k : KeepBut a H H') (p : PurseAt H a n) : DAt H' v d := h.mono (TK.of_keepBut k p)
section
variable {P : Program} {w : World} {K : Frag} {mg : Str → Option Value} {base : Heap}
def spLSg (n : Nat) : Sp := fun vs H Q _ => ∃ v t, vs = [v] ∧ TyAt H v t ∧ t.d.dep ≤ n ∧ Q (.int t.signs) H
theorem lsg_step {f : Addr} {fd : FuncData} (T : Top K mg "_law_signs" sLSigns pLSigns f fd) (B : Blt mg) {n m : Nat} {sp' : Sp} (GP : FnOk P w K mg base CX0 m f fd pLSigns sp')
    (hsp : ∀ v t H Q, TyAt H v t → t.d.dep + 1 ≤ n → Q (.int t.signs) H → sp' [v] H Q L2.E0) : FnOk P w K mg base CX0 (m + 1) f fd pLSigns (spLSg n) := by
  refine T.F.ok scLSigns (fun vs H Q E h => ?_) (fun cdv A outer s H vs Q E hr h => ?_)
  · obtain ⟨_, _, rfl, _⟩ := h
    rfl
  · obtain ⟨v, t, rfl, ht, hn, k⟩ := h
    refine ⟨_, (pss_one (ps_ret (pe_ifExp (pt_val (pe_callB call_isi (by rfl) B.isi (by decide +kernel) (pa_cons (pv 0) (pa_cons (pe_bltn (v := .ty "str") (by rfl) B.str_ (by decide +kernel) rfl) pa_nil)))) pe_int (pe_op op_add (pe_op op_add pe_int (pe_call GP hr rfl T.g T.F.kp T.b .nil pass0 (pa_cons (pe_ix ix_tup (pv 0) pe_int (fun _ _ => rfl)) pa_nil))) (pe_call GP hr rfl T.g T.F.kp T.b .nil pass0 (pa_cons (pe_ix ix_tup (pv 0) pe_int (fun _ _ => rfl)) pa_nil)))))), ?_⟩
    cases ht with
    | @w z h => exact ⟨_, rfl, _, _, _, _, true, rfl, .ty "str", .base (.str z), kit_ty (by decide +kernel), true, rfl, iteT k⟩
    | @n p g x y a b e h1 h2 =>
      rw [dep_n] at hn
      refine ⟨_, rfl, _, _, _, _, false, rfl, .ty "str", .base (.tup e), kit_ty (by decide +kernel), false, rfl, iteF ?_⟩
      refine ⟨_, rfl, p, _, _, _, rfl, rfl, SqT.of e, atI_nat (j := 1) rfl, hsp x a _ _ h1 (by omega) ⟨_, _, rfl, rfl, ?_⟩⟩
      refine ⟨_, rfl, p, _, _, _, rfl, rfl, SqT.of e, atI_nat (j := 2) rfl, hsp y b _ _ h2 (by omega) ⟨_, _, rfl, rfl, ?_⟩⟩
      have e1 : (1 : Int) + (a.signs : Int) + (b.signs : Int) = ((1 + a.signs + b.signs : Nat) : Int) := by omega
      dsimp only
      rw [e1]
      exact k
theorem ok_lsg {f : Addr} {fd : FuncData} (T : Top K mg "_law_signs" sLSigns pLSigns f fd) (B : Blt mg) : ∀ n : Nat, FnOk P w K mg base CX0 (1 + n) f fd pLSigns (spLSg n)
  | 0 => lsg_step T B fn_vac fun _ _ _ _ _ h _ => absurd h (by omega)
  | n + 1 => lsg_step (m := 1 + n) T B (ok_lsg T B n) fun v t H Q h1 h2 h3 => ⟨v, t, rfl, h1, by omega, h3⟩
/-- what the builders of derivations need -/
structure Drawn (H : Hp) (a L : Addr) (n : Nat) (zs : List Str) : Prop where
  p : PurseAt H a n
  ne : L ≠ a
  l : H L = some (.lst (zs.map V.str))
  z : Plains zs
theorem Drawn.but {H H' : Hp} {a L : Addr} {n m : Nat} {zs : List Str} (h : Drawn H a L n zs) (k : KeepBut a H H') (p : PurseAt H' a m) : Drawn H' a L m zs := ⟨p, h.ne, k _ _ h.l h.ne, h.z⟩
theorem Drawn.same {H H' : Hp} {a L : Addr} {n : Nat} {zs : List Str} (h : Drawn H a L n zs) (s : Same H H') : Drawn H' a L n zs := ⟨by obtain ⟨p0, p1, p2, p3, e, r⟩ := h.p; exact ⟨p0, p1, p2, p3, s _ _ e, r⟩, h.ne, s _ _ h.l, h.z⟩
def spMinor : Sp := fun vs H Q _ => ∃ (a L : Addr) (n : Nat) (zs : List Str) (x : V) (t : Ty), vs = [.ref a, .ref L, x] ∧ Drawn H a L n zs ∧ n ≤ 300000000000 ∧ TyAt H x t ∧ t.d.dep ≤ 60 ∧ (∀ z ∈ t.words, z ∈ zs) ∧
  ∀ v' d rm H', KeepBut a H H' → PurseAt H' a (n + 10) → DAt H' v' d → d.tl = some (rm, t) → 1 ≤ rm.length → rm.length ≤ 2 → d.dep ≤ max (t.d.dep + 2) 5 → d.size ≤ t.d.size + 20 → LWd zs d → Q v' H'
theorem ok_minor {f fD fK fS fO : Addr} {fd dD dK dS dO : FuncData} (T : Top K mg "_law_minor" sLMinor pLMinor f fd) (TD : Top K mg "_law_draw" sLDraw ["purse", "many"] fD dD) (TKd : Top K mg "_law_kind" sLKind pLKind fK dK) (TS : Top K mg "_law_signs" sLSigns pLSigns fS dS) (TO : Top K mg "_law_opened" sLOpened pLOpened fO dO) (B : Blt mg)
    (GD : FnOk P w K mg base CX0 2 fD dD ["purse", "many"] spDraw) (GK : FnOk P w K mg base CX0 6 fK dK pLKind (spKind 2)) (GS : FnOk P w K mg base CX0 61 fS dS pLSigns (spLSg 60)) (GO : FnOk P w K mg base CX0 3 fO dO pLOpened (spOpened 2)) : FnOk P w K mg base CX0 62 f fd pLMinor spMinor := by
  refine T.F.ok scLMinor (fun vs H Q E h => ?_) (fun cdv A outer s H vs Q E hr h => ?_)
  · obtain ⟨_, _, _, _, _, _, rfl, _⟩ := h
    rfl
  · obtain ⟨a, L, n, zs, x, t, rfl, dr, hn, hx, hd60, hwx, k⟩ := h
    have hr2 : Room 2 _ := hr.mono (by decide)
    have hr3 : Room 3 _ := hr.mono (by decide)
    have hr6 : Room 6 _ := hr.mono (by decide)
    refine ⟨_, (pss_cons (ps_set (i := 3) scLMinor.nd rfl (Or.inl rfl) (pe_call GD hr2 rfl TD.g TD.F.kp TD.b .nil pass0 (pa_cons (pv 0) (pa_cons pe_int pa_nil))))
      (pss_cons (ps_set (i := 4) scLMinor.nd rfl (Or.inl rfl) (pe_call GK hr6 rfl TKd.g TKd.F.kp TKd.b .nil pass0 (pa_cons (pv 0) (pa_cons (pv 1) (pa_cons (pe_call GD hr2 rfl TD.g TD.F.kp TD.b .nil pass0 (pa_cons (pv 0) (pa_cons pe_int pa_nil))) pa_nil)))))
      (pss_cons (ps_if (PW.pt (pw_and (pt_cmpR op_eq (pv 3) pe_int (nomark _)) (pw_and1 (pt_cmpR op_lt (pe_call GS hr rfl TS.g TS.F.kp TS.b .nil pass0 (pa_cons (pv 2) pa_nil)) pe_int (nomark _))))) (pss_one (ps_ret (pe_call GO hr3 rfl TO.g TO.F.kp TO.b .nil pass0 (pa_cons (pv 2) pa_nil)))) pss_nil)
      (pss_cons (ps_if (pt_cmpR op_eq (pv 3) pe_int (nomark _)) (pss_one (ps_ret (pe_tup (pa_cons pe_str (pa_cons pe_int (pa_cons (pe_tup (pa_cons pe_str (pa_cons (pv 4) pa_nil))) (pa_cons (pe_tup (pa_cons pe_str (pa_cons (pv 2) pa_nil))) pa_nil))))))) pss_nil)
      (pss_cons (ps_if (pt_cmpR op_eq (pv 3) pe_int (nomark _)) (pss_one (ps_ret (pe_tup (pa_cons pe_str (pa_cons pe_int (pa_cons (pe_tup (pa_cons pe_str (pa_cons (pv 4) pa_nil))) (pa_cons (pe_tup (pa_cons pe_str (pa_cons (pv 2) pa_nil))) pa_nil))))))) pss_nil)
      (pss_one (ps_ret (pe_tup (pa_cons pe_str (pa_cons (pv 2) pa_nil)))))))))), ?_⟩
    refine ⟨_, rfl, a, n, 5, rfl, dr.p, by omega, by omega, by omega, fun d1 H1 c0 c1 off1 hp1 => ?_⟩
    have kb1 : KeepBut a H H1 := .of_off off1
    refine ⟨_, rfl, _, rfl, _, rfl, a, _, 2, rfl, hp1, by omega, by omega, by omega, fun d2 H2 c2 c3 off2 hp2 => ?_⟩
    obtain ⟨m, rfl⟩ : ∃ m : Nat, d2 = (m : Int) := ⟨d2.toNat, by omega⟩
    have kb2 : KeepBut a H H2 := kb1.trans (.of_off off2)
    refine ⟨a, L, _, m, zs, rfl, hp2, by omega, dr.ne, kb2 _ _ dr.l dr.ne, dr.z, by omega, fun vl tl H3 hvl hsl hwl kb3 hp3 => ?_⟩
    have kbt : KeepBut a H H3 := kb2.trans kb3
    have hx3 := hx.mono (TK.of_keepBut kbt dr.p)
    have hp3' := hp3.mono (m := n + 10) (by omega)
    have tsm := ty_dep_small tl
    have isD : ∀ (H' : Hp) (p : Addr) (y : V) (u : Ty), H' p = some (.tup [.str "is", y]) → TyAt H' y u → DAt H' (.ref p) (.t [.s "is", u.d]) ∧ (D.t [.s "is", u.d]).tl = some ([u], u) := fun H' p y u e hu => ⟨dAt_is e hu.d, tl_of (.is (u.ty_d hu.wok))⟩
    have fin : ∀ (nm : Str) (rm : List Ty), TxtOk nm → (D.t [.s nm, .i 0, .t [.s "is", tl.d], .t [.s "is", t.d]]).tl = some (rm, t) → 1 ≤ rm.length → rm.length ≤ 2 → ∀ (q1 q2 q3 : Addr), H3 q1 = none → upd H3 q1 (.tup [.str "is", vl]) q2 = none → upd (upd H3 q1 (.tup [.str "is", vl])) q2 (.tup [.str "is", x]) q3 = none → Q (.ref q3) (upd (upd (upd H3 q1 (.tup [.str "is", vl])) q2 (.tup [.str "is", x])) q3 (.tup [.str nm, .int 0, .ref q1, .ref q2])) := by
      intro nm rm ok et l1 l2 q1 q2 q3 n1 n2 n3
      have s1 := same_upd (o := .tup [.str "is", vl]) n1
      have s2 := same_upd (o := .tup [.str "is", x]) n2
      have s3 := same_upd (o := .tup [.str nm, .int 0, .ref q1, .ref q2]) n3
      have s13 := (s1.trans s2).trans s3
      have A1 := (isD _ q1 vl tl ((s2.trans s3) _ _ upd_same) (hvl.mono (TK.of_same s13))).1
      have A2 := (isD _ q2 x t (s3 _ _ upd_same) (hx3.mono (TK.of_same s13))).1
      refine k _ _ rm _ (kbt.trans (.of_same s13)) (((hp3'.upd (hp3'.ne n1)).upd ((hp3'.upd (hp3'.ne n1)).ne n2)).upd (((hp3'.upd (hp3'.ne n1)).upd ((hp3'.upd (hp3'.ne n1)).ne n2)).ne n3)) (dAt_4 ok upd_same A1 A2) et l1 l2 ?_ ?_ (lwd_4 et (lwd_is (tl.ty_d hvl.wok) hwl) (lwd_is (t.ty_d hx.wok) hwx))
      · simp only [D.dep, depAll]
        omega
      · simp only [D.size, sizeAll]
        omega
    have toO : (D.t [.s "over used", .i 0, .t [.s "is", tl.d], .t [.s "is", t.d]]).tl = some ([.n .ov t tl, tl], t) := tl_of (.us (by decide) (tl_of (.is (tl.ty_d hvl.wok))) (tl_of (.is (t.ty_d hx.wok))) (by simp [usedAt]))
    have toU : (D.t [.s "under used", .i 0, .t [.s "is", tl.d], .t [.s "is", t.d]]).tl = some ([tl, .n .un tl t], t) := tl_of (.us (by decide) (tl_of (.is (tl.ty_d hvl.wok))) (tl_of (.is (t.ty_d hx.wok))) (by simp [usedAt]))
    refine ⟨_, rfl, rfl, _, rfl, ?_⟩
    by_cases c : d1 = 0
    · have c1 : ¬ d1 = 1 := by omega
      have c2 : ¬ d1 = 2 := by omega
      rw [decide_eq_true (show V.int d1 = V.int 0 by rw [c])]
      refine iteT ⟨_, rfl, x, t, rfl, hx3, hd60, _, _, rfl, rfl, _, rfl, ?_⟩
      by_cases l : (t.signs : Int) < 3
      · rw [decide_eq_true l]
        refine iteT ⟨_, rfl, x, t, rfl, hx3, by omega, fun v' H' s' d' => ?_⟩
        obtain ⟨z1, z2⟩ := opD_size t
        have tz : t.d.size ≥ 1 := D.size_pos _
        refine k v' _ [t] H' (kbt.trans (.of_same s')) ?_ d' (opD_tl t hx.wok) (Nat.le_refl _) (by simp) (by omega) (by omega) (lwd_op hx.wok hwx)
        obtain ⟨p0, p1, p2, p3, e, r⟩ := hp3'
        exact ⟨p0, p1, p2, p3, s' _ _ e, r⟩
      · rw [decide_eq_false l]
        refine iteF ?_
        refine ⟨_, rfl, rfl, false, congrArg V.bl (decide_eq_false fun z => c1 (by injection z)), iteF ⟨_, rfl, rfl, false, congrArg V.bl (decide_eq_false fun z => c2 (by injection z)), iteF ⟨_, rfl, by show 2 ≤ sizeLine; rw [sizeLine_eq]; omega, fun q nq => ?_⟩⟩⟩
        have sq := same_upd (o := .tup [.str "is", x]) nq
        obtain ⟨A1, A2⟩ := isD _ q x t upd_same (hx3.mono (TK.of_same sq))
        exact k _ _ [t] _ (kbt.trans (.of_same sq)) (hp3'.upd (hp3'.ne nq)) A1 A2 (Nat.le_refl _) (by simp) (by simp only [D.dep, depAll]; omega) (by simp only [D.size, sizeAll]; omega) (lwd_is (t.ty_d hx.wok) hwx)
    · rw [decide_eq_false (show ¬ V.int d1 = V.int 0 from fun z => c (by injection z))]
      refine iteF (iteF ?_)
      by_cases c1 : d1 = 1
      · refine ⟨_, rfl, rfl, true, congrArg V.bl (decide_eq_true (show V.int d1 = V.int 1 by rw [c1])), iteT ⟨_, rfl, by show 2 ≤ sizeLine; rw [sizeLine_eq]; omega, fun q1 n1 => ⟨_, rfl, by show 2 ≤ sizeLine; rw [sizeLine_eq]; omega, fun q2 n2 => ⟨by show 4 ≤ sizeLine; rw [sizeLine_eq]; omega, fun q3 n3 => ?_⟩⟩⟩⟩
        exact fin "over used" _ (txtIs _ (by simp)) toO (by simp) (by simp) q1 q2 q3 n1 n2 n3
      · by_cases c2 : d1 = 2
        · refine ⟨_, rfl, rfl, false, congrArg V.bl (decide_eq_false fun z => c1 (by injection z)), iteF ⟨_, rfl, rfl, true, congrArg V.bl (decide_eq_true (show V.int d1 = V.int 2 by rw [c2])), iteT ⟨_, rfl, by show 2 ≤ sizeLine; rw [sizeLine_eq]; omega, fun q1 n1 => ⟨_, rfl, by show 2 ≤ sizeLine; rw [sizeLine_eq]; omega, fun q2 n2 => ⟨by show 4 ≤ sizeLine; rw [sizeLine_eq]; omega, fun q3 n3 => ?_⟩⟩⟩⟩⟩
          exact fin "under used" _ (txtIs _ (by simp)) toU (by simp) (by simp) q1 q2 q3 n1 n2 n3
        · refine ⟨_, rfl, rfl, false, congrArg V.bl (decide_eq_false fun z => c1 (by injection z)), iteF ⟨_, rfl, rfl, false, congrArg V.bl (decide_eq_false fun z => c2 (by injection z)), iteF ⟨_, rfl, by show 2 ≤ sizeLine; rw [sizeLine_eq]; omega, fun q nq => ?_⟩⟩⟩
          have sq := same_upd (o := .tup [.str "is", x]) nq
          obtain ⟨A1, A2⟩ := isD _ q x t upd_same (hx3.mono (TK.of_same sq))
          exact k _ _ [t] _ (kbt.trans (.of_same sq)) (hp3'.upd (hp3'.ne nq)) A1 A2 (Nat.le_refl _) (by simp) (by simp only [D.dep, depAll]; omega) (by simp only [D.size, sizeAll]; omega) (lwd_is (t.ty_d hx.wok) hwx)
end
end U6

namespace U6
open PySem PySem.Spec PyProof.Rows L2 LamX KT
open PySem.W (Frag)
/-- the sizes of types, together -/
def tsz (l : List Ty) : Nat := (l.map fun t => t.d.size).sum
def wt (r : Told) : Nat := tsz r.1 + r.2.d.size
theorem tsz_app (l r : List Ty) : tsz (l ++ r) = tsz l + tsz r := by simp [tsz]
theorem tsz_cons (a : Ty) (r : List Ty) : tsz (a :: r) = a.d.size + tsz r := by simp [tsz]
theorem tsz_nil : tsz [] = 0 := rfl
theorem size_n (g : Sg) (a b : Ty) : (Ty.n g a b).d.size = a.d.size + b.d.size + 2 := by
  simp only [Ty.d, D.size, sizeAll]
  omega
theorem tsz_at : ∀ {l : List Ty} {n : Nat} {k : Ty}, l[n]? = some k → tsz l = tsz (l.take n) + k.d.size + tsz (l.drop (n + 1))
  | [], n, k, h => by simp at h
  | a :: r, 0, k, h => by
    obtain rfl := Option.some.inj (show some a = some k from h)
    rw [tsz_cons]
    simp [tsz_nil]
  | a :: r, n + 1, k, h => by
    have q := tsz_at (l := r) (n := n) (k := k) (by simpa using h)
    rw [tsz_cons, List.take_succ_cons, List.drop_succ_cons, tsz_cons, q]
    omega
theorem tsz_mem {k : Ty} : ∀ {l : List Ty}, k ∈ l → k.d.size ≤ tsz l
  | [], h => by cases h
  | a :: r, h => by
    rw [tsz_cons]
    rcases List.mem_cons.mp h with e | q
    · rw [e]; omega
    · have := tsz_mem q; omega
theorem tsz_last : ∀ {l : List Ty}, l ≠ [] → tsz l = tsz l.dropLast + (l.getLastD (.w "")).d.size
  | [], h => absurd rfl h
  | [a], _ => by simp [tsz_cons, tsz_nil]
  | a :: b :: r, _ => by
    have q := tsz_last (l := b :: r) (by simp)
    rw [tsz_cons, q, List.dropLast_cons_cons, tsz_cons]
    simp only [List.getLastD_cons]
    omega
theorem wt_madeO {x r : Told} (h : madeO x = some r) : wt r = wt x + 2 ∧ r.1 ≠ [] := by
  obtain ⟨row, goal⟩ := x
  simp only [madeO] at h
  split at h
  · cases h
  · rename_i c
    cases h
    have hne : row ≠ [] := by rintro rfl; simp at c
    have q := tsz_last hne
    refine ⟨?_, fun z => ?_⟩
    · simp only [wt, size_n]
      omega
    · have l := congrArg List.length z
      rw [List.length_dropLast, List.length_nil] at l
      omega
theorem wt_madeU {x r : Told} (h : madeU x = some r) : wt r = wt x + 2 ∧ r.1 ≠ [] := by
  obtain ⟨row, goal⟩ := x
  unfold madeU at h
  split at h
  · rename_i a b r' g' he
    cases he
    cases h
    refine ⟨?_, by simp⟩
    simp only [wt, size_n, tsz_cons]
    omega
  · cases h
theorem wt_thenM (x y : Told) : wt (thenM x y) = wt x + wt y + 2 := by
  simp only [wt, thenM, tsz_app, size_n]
  omega
theorem wt_usedAt {nm : Str} {p : Int} {x y r : Told} (h : usedAt nm p x y = some r) : wt r ≤ wt x + wt y + 2 ∧ (x.1 ≠ [] → r.1 ≠ []) := by
  unfold usedAt at h
  split at h
  · split at h
    · cases h
    · rename_i k hk
      have q := tsz_at hk
      split at h
      · cases h
        refine ⟨?_, fun _ => by simp⟩
        simp only [wt, tsz_app, tsz_cons, tsz_nil, size_n]
        omega
      · split at h
        · cases h
          refine ⟨?_, fun _ => by simp⟩
          simp only [wt, tsz_app, tsz_cons, tsz_nil, size_n]
          omega
        · split at h
          · cases h
            refine ⟨?_, fun z => by simp [z]⟩
            simp only [wt, tsz_app]
            omega
          · cases h
  · cases h
theorem wt_cut {p : Int} {x y r : Told} (h : usedAt "cut" p x y = some r) : wt r + 2 * x.2.d.size = wt x + wt y := by
  unfold usedAt at h
  split at h
  · split at h
    · cases h
    · rename_i k hk
      have q := tsz_at hk
      have n1 : ¬ ("cut" : Str) = "over used" := by decide
      have n2 : ¬ ("cut" : Str) = "under used" := by decide
      simp only [n1, n2, if_false] at h
      split at h
      · rename_i e
        subst e
        cases h
        simp only [wt, tsz_app]
        omega
      · cases h
  · cases h
theorem wt_thenU {p : Int} {y r : Told} (h : thenU p y = some r) : wt r = wt y + 2 ∧ r.1 ≠ [] := by
  unfold thenU at h
  split at h
  · split at h
    · rename_i a b ha hb
      cases h
      have q1 := tsz_at ha
      have hb' : (y.1.drop (p.toNat + 1))[0]? = some b := by rw [List.getElem?_drop]; exact hb
      have q2 := tsz_at hb'
      rw [List.take_zero, tsz_nil, List.drop_drop] at q2
      refine ⟨?_, by simp⟩
      simp only [wt, tsz_app, tsz_cons, tsz_nil, size_n]
      have e : p.toNat + 1 + (0 + 1) = p.toNat + 2 := by omega
      rw [e] at q2
      omega
    · cases h
  · cases h
/-- what is told weighs at most twice what tells it -/
theorem wt_size : ∀ (n : Nat) (u : D) (r : Told), u.size ≤ n → u.tl = some r → wt r ≤ 2 * u.size := by
  intro n
  induction n with
  | zero => intro u r h; have := u.size_pos; omega
  | succ n ih =>
    intro u r hz h
    cases tl_inv h with
    | @is x k hk =>
      have e := D.ty_d hk
      simp only [D.size, sizeAll, wt, tsz_cons, tsz_nil, e]
      omega
    | om h1 h2 =>
      simp only [D.size, sizeAll] at hz
      have q := ih _ _ (by omega) h1
      have q2 := (wt_madeO h2).1
      simp only [D.size, sizeAll]
      omega
    | um h1 h2 =>
      simp only [D.size, sizeAll] at hz
      have q := ih _ _ (by omega) h1
      have q2 := (wt_madeU h2).1
      simp only [D.size, sizeAll]
      omega
    | @tm x y rx ry h1 h2 =>
      simp only [D.size, sizeAll] at hz
      have q := ih _ _ (by omega) h1
      have q' := ih _ _ (by omega) h2
      have q2 := wt_thenM rx ry
      simp only [D.size, sizeAll]
      omega
    | tu h1 h2 =>
      simp only [D.size, sizeAll] at hz
      have q := ih _ _ (by omega) h1
      have q2 := (wt_thenU h2).1
      simp only [D.size, sizeAll]
      omega
    | @us nm p x y _ _ _ c h1 h2 h3 =>
      simp only [D.size, sizeAll] at hz
      have q := ih _ _ (by omega) h1
      have q' := ih _ _ (by omega) h2
      have q2 := (wt_usedAt h3).1
      simp only [D.size, sizeAll]
      omega
end U6

namespace U6
open PySem PySem.Spec PyProof.Rows L2 LamX KT
open PySem.W (Frag)
theorem row_neP {H : Hp} {a M : Addr} {n : Nat} {ms : List V} {row : List Ty} (p : PurseAt H a n) (e : H M = some (.lst ms)) (hT : Tys H ms row) (ne : row ≠ []) : M ≠ a := by
  rintro rfl
  obtain ⟨p0, p1, p2, p3, e', _⟩ := p
  rw [e'] at e
  obtain rfl := HO.lst.inj (Option.some.inj e)
  cases hT with
  | cons h _ => cases h
theorem cutRule {G A : Prop} (h : G → A) (g : G) : A := h g
section
variable {P : Program} {w : World} {K : Frag} {mg : Str → Option Value} {base : Heap}
def spOneRule : Sp := fun vs H Q _ => ∃ (a L : Addr) (n : Nat) (zs : List Str) (v : V) (d : D) (r : Told), vs = [.ref a, .ref L, v] ∧ Drawn H a L n zs ∧ n ≤ 200000000000 ∧ DAt H v d ∧ d.tl = some r ∧ r.1 ≠ [] ∧ d.dep ≤ 26 ∧ d.size ≤ 3000 ∧ LWd zs d ∧
  ∀ v' d' r' H', KeepBut a H H' → PurseAt H' a (n + 30) → DAt H' v' d' → d'.tl = some r' → r'.1 ≠ [] → d'.dep ≤ max (d.dep + 3) 6 → wt r' ≤ wt r + 60 → d'.size ≤ d.size + wt r + 30 → LWd zs d' → Q v' H'
theorem ok_oneRule {f fT fD fK fM : Addr} {fd dT dD dK dM : FuncData} (T : Top K mg "_law_one_rule" sLOneRule pLOneRule f fd) (TT : Top K mg "_law_tells" sLTells pLTells fT dT) (TD : Top K mg "_law_draw" sLDraw ["purse", "many"] fD dD) (TKd : Top K mg "_law_kind" sLKind pLKind fK dK) (TM : Top K mg "_law_minor" sLMinor pLMinor fM dM) (B : Blt mg)
    (GT : FnOk P w K mg base CX0 63 fT dT pLTells (spLTells 30)) (GD : FnOk P w K mg base CX0 2 fD dD ["purse", "many"] spDraw) (GK : FnOk P w K mg base CX0 6 fK dK pLKind (spKind 2)) (GM : FnOk P w K mg base CX0 62 fM dM pLMinor spMinor) : FnOk P w K mg base CX0 64 f fd pLOneRule spOneRule := by
  refine T.F.ok scLOneRule (fun vs H Q E h => ?_) (fun cdv A outer s H vs Q E hr h => ?_)
  · obtain ⟨_, _, _, _, _, _, _, rfl, _⟩ := h
    rfl
  · obtain ⟨a, L, n, zs, v, d, r, rfl, dr, hn, hd, et, hne, hd40, hz, hlw, k⟩ := h
    have hr2 : Room 2 _ := hr.mono (by decide)
    have hr6 : Room 6 _ := hr.mono (by decide)
    have hr62 : Room 62 _ := hr.mono (by decide)
    refine ⟨_, (pss_cons (ps_set (i := 3) scLOneRule.nd rfl (Or.inl rfl) (pe_ix ix_list (pe_call GT hr rfl TT.g TT.F.kp TT.b .nil pass0 (pa_cons (pv 2) pa_nil)) pe_int (fun _ _ => rfl)))
      (pss_cons (ps_par (i := 4) (j := 5) rfl scLOneRule.nd rfl rfl (by decide) rfl rfl (pa_cons (pe_call GD hr2 rfl TD.g TD.F.kp TD.b .nil pass0 (pa_cons (pv 0) (pa_cons pe_int pa_nil))) (pa_cons (pe_call GD hr2 rfl TD.g TD.F.kp TD.b .nil pass0 (pa_cons (pv 0) (pa_cons (pe_callB call_len_seq (by rfl) B.len PySem.boot_len (pa_cons (pv 3) pa_nil)) pa_nil))) pa_nil)) (by rfl))
      (pss_cons (ps_if (PW.pt (pw_and (pt_cmpR op_lt (pv 4) pe_int (nomark _)) (pw_and1 (pt_cmpR op_gt (pe_callB call_len_seq (by rfl) B.len PySem.boot_len (pa_cons (pv 3) pa_nil)) pe_int (nomark _))))) (pss_one (ps_ret (pe_tup (pa_cons (pe_ix ix_list (pe_lst (pa_cons pe_str (pa_cons pe_str pa_nil))) (pv 4) (fun _ _ => rfl)) (pa_cons (pv 2) pa_nil))))) pss_nil)
      (pss_cons (ps_if (PW.pt (pw_and (pt_cmpR op_eq (pv 4) pe_int (nomark _)) (pw_and1 (pt_cmpR op_gt (pe_callB call_len_seq (by rfl) B.len PySem.boot_len (pa_cons (pv 3) pa_nil)) pe_int (nomark _))))) (pss_one (ps_ret (pe_tup (pa_cons pe_str (pa_cons (pe_call GD hr2 rfl TD.g TD.F.kp TD.b .nil pass0 (pa_cons (pv 0) (pa_cons (pe_op op_sub (pe_callB call_len_seq (by rfl) B.len PySem.boot_len (pa_cons (pv 3) pa_nil)) pe_int) pa_nil))) (pa_cons (pv 2) pa_nil)))))) pss_nil)
      (pss_cons (ps_if (pt_cmpR op_eq (pv 4) pe_int (nomark _)) (pss_cons (ps_set (i := 6) scLOneRule.nd rfl (Or.inl rfl) (pe_tup (pa_cons pe_str (pa_cons (pe_call GK hr6 rfl TKd.g TKd.F.kp TKd.b .nil pass0 (pa_cons (pv 0) (pa_cons (pv 1) (pa_cons (pe_call GD hr2 rfl TD.g TD.F.kp TD.b .nil pass0 (pa_cons (pv 0) (pa_cons pe_int pa_nil))) pa_nil)))) pa_nil))))
      (pss_one (ps_ret (pe_ifExp (pt_cmpR op_eq (pe_call GD hr2 rfl TD.g TD.F.kp TD.b .nil pass0 (pa_cons (pv 0) (pa_cons pe_int pa_nil))) pe_int (nomark _)) (pe_tup (pa_cons pe_str (pa_cons (pv 2) (pa_cons (pv 6) pa_nil)))) (pe_tup (pa_cons pe_str (pa_cons (pv 6) (pa_cons (pv 2) pa_nil)))))))) pss_nil)
      (pss_cons (ps_if (pt_cmpR op_eq (pv 4) pe_int (nomark _)) (pss_one (ps_ret (pe_tup (pa_cons pe_str (pa_cons (pv 5) (pa_cons (pe_call GM hr62 rfl TM.g TM.F.kp TM.b .nil pass0 (pa_cons (pv 0) (pa_cons (pv 1) (pa_cons (pe_ix ix_list (pv 3) (pv 5) (fun _ _ => rfl)) pa_nil)))) (pa_cons (pv 2) pa_nil))))))) pss_nil)
      (pss_cons (ps_set (i := 7) scLOneRule.nd rfl (Or.inl rfl) (pe_call GK hr6 rfl TKd.g TKd.F.kp TKd.b .nil pass0 (pa_cons (pv 0) (pa_cons (pv 1) (pa_cons (pe_call GD hr2 rfl TD.g TD.F.kp TD.b .nil pass0 (pa_cons (pv 0) (pa_cons pe_int pa_nil))) pa_nil)))))
      (pss_one (ps_ret (pe_tup (pa_cons (pe_ix ix_list (pe_lst (pa_cons pe_str (pa_cons pe_str pa_nil))) (pe_call GD hr2 rfl TD.g TD.F.kp TD.b .nil pass0 (pa_cons (pv 0) (pa_cons pe_int pa_nil))) (fun _ _ => rfl)) (pa_cons (pv 5) (pa_cons (pe_call GM hr62 rfl TM.g TM.F.kp TM.b .nil pass0 (pa_cons (pv 0) (pa_cons (pv 1) (pa_cons (pv 7) pa_nil)))) (pa_cons (pv 2) pa_nil)))))))))))))), ?_⟩
    obtain ⟨row, goal⟩ := r
    have bd := tl_bd d.size d _ (Nat.le_refl _) et
    have tw := told_words d.size d _ (Nat.le_refl _) et hlw
    have lb : row.length ≤ 3000 := Nat.le_trans bd.1 hz
    have hne : row ≠ [] := hne
    have l1 : 1 ≤ row.length := List.length_pos_iff.mpr hne
    refine ⟨_, rfl, v, d, rfl, hd, by omega, by omega, by omega, fun v1 H1 s1 r1 => ?_⟩
    rw [et] at r1
    obtain ⟨q, M, ms, g, rfl, eq, eM, hT, hg⟩ := r1
    have hT : Tys H1 ms row := hT
    have lT := hT.length
    refine ⟨q, _, _, _, rfl, rfl, SqL.of eq, atI_nat (j := 0) rfl, ?_⟩
    have dr1 := dr.same s1
    have hd1 := hd.mono (TK.of_same s1)
    refine ⟨_, rfl, a, n, 8, rfl, dr1.p, by omega, by omega, by omega, fun way H2 w0 w1 off2 hp2 => ?_⟩
    have nM : M ≠ a := row_neP dr1.p eM hT hne
    have kb2 : KeepBut a H1 H2 := .of_off off2
    refine ⟨_, rfl, _, rfl, M, ms, rfl, .inl (SqL.of (kb2 _ _ eM nM)), a, _, _, rfl, hp2, by omega, by rw [lT]; omega, by rw [lT]; omega, fun pl H3 p0 p1 off3 hp3 => ⟨_, _, rfl, ?_⟩⟩
    have kb3 : KeepBut a H1 H3 := kb2.trans (.of_off off3)
    have kbH : KeepBut a H H3 := (KeepBut.of_same s1).trans kb3
    have dr3 : Drawn H3 a L (n + 2) zs := dr1.but kb3 (hp3.mono (by omega))
    have hd3 := hd1.but kb3 dr1.p
    have hT3 : Tys H3 ms row := hT.mono (TK.of_keepBut kb3 dr1.p)
    have eM3 := kb3 _ _ eM nM
    obtain ⟨pn, rfl⟩ : ∃ m : Nat, pl = (m : Int) := ⟨pl.toNat, by omega⟩
    have hpn : pn < row.length := by rw [lT] at p1; omega
    have z1 := D.size_pos d
    -- one argument
    have fin1 : ∀ (nm : Str) (r' : Told), (nm = "over made" ∨ nm = "under made") → (D.t [.s nm, d]).tl = some r' → wt r' = wt (row, goal) + 2 ∧ r'.1 ≠ [] → ∀ H4, Same H3 H4 → PurseAt H4 a (n + 2) → ∀ p, H4 p = none → Q (.ref p) (upd H4 p (.tup [.str nm, v])) := by
      intro nm r' onm e1 wr H4 s4 hp4 p np
      have sp := same_upd (o := .tup [.str nm, v]) np
      refine k _ _ r' _ (kbH.trans (.of_same (s4.trans sp))) ((hp4.upd (hp4.ne np)).mono (by omega)) (dAt_2 (txtIs _ (by rcases onm with h | h <;> simp [h])) upd_same (hd3.mono (TK.of_same (s4.trans sp)))) e1 wr.2 ?_ (by omega) ?_ (lwd_1 e1 (by rcases onm with h | h <;> rw [h] <;> decide) hlw)
      · simp only [D.dep, depAll]; omega
      · simp only [D.size, sizeAll]; omega
    have lgt : decide ((ms.length : Int) > 1) = decide (1 < row.length) := by
      rw [decide_eq_decide, lT]
      omega
    have hS3 : SqL K H3 M ms := SqL.of eM3
    refine ⟨_, rfl, _, _, rfl, rfl, _, rfl, ?_⟩
    have mo : 1 < row.length → ∃ r', madeO (row, goal) = some r' := fun l => ⟨_, by simp only [madeO]; rw [if_neg (by omega)]⟩
    have mu : 1 < row.length → ∃ r', madeU (row, goal) = some r' := fun l => by
      rcases row with _ | ⟨x, _ | ⟨y, row⟩⟩
      · simp at l
      · simp at l
      · exact ⟨_, rfl⟩
    apply cutRule
    · intro tail
      by_cases c0 : ¬ way < 2
      · rw [decide_eq_false c0]
        exact iteF (iteF tail)
      · have c0 : way < 2 := Decidable.not_not.mp c0
        rw [decide_eq_true c0]
        refine iteT ⟨_, rfl, M, ms, rfl, .inl hS3, _, _, rfl, rfl, _, rfl, ?_⟩
        rw [lgt]
        by_cases l : 1 < row.length
        · rw [decide_eq_true l]
          refine iteT ⟨by show 2 ≤ sizeLine; rw [sizeLine_eq]; omega, fun N nN => ?_⟩
          have sN := same_upd (o := .lst [.str "over made", .str "under made"]) nN
          have hp4 := hp3.upd (hp3.ne nN) (o := .lst [.str "over made", .str "under made"])
          by_cases c : way = 0
          · subst c
            obtain ⟨r', e1⟩ := mo l
            exact ⟨_, rfl, N, _, _, _, rfl, rfl, SqL.of upd_same, atI_nat (j := 0) rfl, _, rfl, by show 2 ≤ sizeLine; rw [sizeLine_eq]; omega, fun p np => fin1 _ r' (.inl rfl) (tl_of (.om et e1)) (wt_madeO e1) _ sN hp4 p np⟩
          · obtain rfl : way = 1 := by omega
            obtain ⟨r', e1⟩ := mu l
            exact ⟨_, rfl, N, _, _, _, rfl, rfl, SqL.of upd_same, atI_nat (j := 1) rfl, _, rfl, by show 2 ≤ sizeLine; rw [sizeLine_eq]; omega, fun p np => fin1 _ r' (.inr rfl) (tl_of (.um et e1)) (wt_madeU e1) _ sN hp4 p np⟩
        · rw [decide_eq_false l]
          exact iteF tail
    refine ⟨_, rfl, rfl, _, rfl, ?_⟩
    have dec : ∀ j : Int, decide (V.int way = V.int j) = decide (way = j) := fun j => by
      rw [decide_eq_decide]
      exact ⟨fun z => by injection z, fun z => by rw [z]⟩
    apply cutRule
    · intro tail
      rw [dec]
      by_cases c0 : ¬ way = 2
      · rw [decide_eq_false c0]
        exact iteF (iteF tail)
      · have c0 : way = 2 := Decidable.not_not.mp c0
        rw [decide_eq_true c0]
        refine iteT ⟨_, rfl, M, ms, rfl, .inl hS3, _, _, rfl, rfl, _, rfl, ?_⟩
        rw [lgt]
        by_cases l : 1 < row.length
        · rw [decide_eq_true l]
          refine iteT ⟨_, rfl, _, rfl, M, ms, rfl, .inl hS3, _, _, rfl, rfl, a, _, _, rfl, hp3, by omega, by rw [lT]; omega, by rw [lT]; omega, fun p4 H4 q0 q1 off4 hp4 => ⟨_, rfl, by show 3 ≤ sizeLine; rw [sizeLine_eq]; omega, fun p np => ?_⟩⟩
          rw [lT] at q1
          have kb4 : KeepBut a H3 H4 := .of_off off4
          have sp := same_upd (o := .tup [.str "then used", .int p4, v]) np
          obtain ⟨x, hx⟩ : ∃ x, row[p4.toNat]? = some x := ⟨_, List.getElem?_eq_getElem (by omega)⟩
          obtain ⟨y, hy⟩ : ∃ y, row[p4.toNat + 1]? = some y := ⟨_, List.getElem?_eq_getElem (by omega)⟩
          obtain ⟨r', e1⟩ : ∃ r', thenU p4 (row, goal) = some r' := ⟨_, by
            unfold thenU
            rw [if_pos q0]
            simp only [hx, hy]
            rfl⟩
          have wr := wt_thenU e1
          refine k _ _ r' _ (kbH.trans (kb4.trans (.of_same sp))) ((hp4.upd (hp4.ne np)).mono (by omega)) (dAt_3 (txtIs _ (by simp)) upd_same (.i p4) ((hd3.but kb4 hp3).mono (TK.of_same sp))) (tl_of (.tu et e1)) wr.2 ?_ (by omega) ?_ (lwd_tu (tl_of (.tu et e1)) hlw)
          · simp only [D.dep, depAll]; omega
          · simp only [D.size, sizeAll]; omega
        · rw [decide_eq_false l]
          exact iteF tail
    refine ⟨_, rfl, rfl, _, congrArg V.bl (dec 3), ?_⟩
    have sz2 : 2 ≤ sizeLine := by rw [sizeLine_eq]; omega
    have sz3 : 3 ≤ sizeLine := by rw [sizeLine_eq]; omega
    have sz4 : 4 ≤ sizeLine := by rw [sizeLine_eq]; omega
    apply cutRule
    · intro tail
      by_cases c0 : ¬ way = 3
      · rw [decide_eq_false c0]
        exact iteF tail
      · have c0 : way = 3 := Decidable.not_not.mp c0
        rw [decide_eq_true c0]
        refine iteT ⟨_, rfl, _, rfl, _, rfl, a, _, 2, rfl, hp3, by omega, by omega, by omega, fun d4 H4 q0 q1 off4 hp4 => ?_⟩
        have kb4 : KeepBut a H3 H4 := .of_off off4
        obtain ⟨m, rfl⟩ : ∃ m : Nat, d4 = (m : Int) := ⟨d4.toNat, by omega⟩
        refine ⟨a, L, _, m, zs, rfl, hp4, by omega, dr.ne, kb4 _ _ dr3.l dr3.ne, dr.z, by omega, fun vl tl H5 hvl hsl hwl kb5 hp5 => ⟨sz2, fun pI npI => ?_⟩⟩
        have sI := same_upd (o := .tup [.str "is", vl]) npI
        have kb35 := kb4.trans kb5
        have hpI := hp5.upd (hp5.ne npI) (o := .tup [.str "is", vl])
        have hI : DAt (upd H5 pI (.tup [.str "is", vl])) (.ref pI) (.t [.s "is", tl.d]) := dAt_is upd_same (hvl.mono (TK.of_same sI)).d
        have eI : (D.t [.s "is", tl.d]).tl = some ([tl], tl) := tl_of (.is (tl.ty_d hvl.wok))
        have tsm := ty_dep_small tl
        have kbI : KeepBut a H (upd H5 pI (.tup [.str "is", vl])) := kbH.trans (kb35.trans (.of_same sI))
        have hdI : DAt (upd H5 pI (.tup [.str "is", vl])) v d := (hd3.but kb35 hp3).mono (TK.of_same sI)
        generalize upd H5 pI (.tup [.str "is", vl]) = H6 at hpI hI kbI hdI ⊢
        refine ⟨_, rfl, a, _, 2, rfl, hpI, by omega, by omega, by omega, fun d7 H7 g0 g1 off7 hp7 => ?_⟩
        have kb7 : KeepBut a H6 H7 := .of_off off7
        have hI7 := hI.but kb7 hpI
        have hd7 := hdI.but kb7 hpI
        refine ⟨rfl, _, rfl, ?_⟩
        by_cases c : V.int d7 = V.int 0
        · rw [decide_eq_true c]
          refine iteT ⟨_, rfl, _, rfl, sz3, fun p np => ?_⟩
          have sp := same_upd (o := .tup [.str "then made", v, .ref pI]) np
          refine k _ _ _ _ (kbI.trans (kb7.trans (.of_same sp))) ((hp7.upd (hp7.ne np)).mono (by omega)) (dAt_3 (txtIs _ (by simp)) upd_same (hd7.mono (TK.of_same sp)) (hI7.mono (TK.of_same sp))) (tl_of (.tm et eI)) (by simp [thenM]) ?_ ?_ ?_ (lwd_tm (tl_of (.tm et eI)) hlw (lwd_is (tl.ty_d hvl.wok) hwl))
          · simp only [D.dep, depAll]; omega
          · rw [wt_thenM]
            simp only [wt, tsz_cons, tsz_nil]
            omega
          · simp only [D.size, sizeAll]; omega
        · rw [decide_eq_false c]
          refine iteF ⟨_, rfl, _, rfl, sz3, fun p np => ?_⟩
          have sp := same_upd (o := .tup [.str "then made", .ref pI, v]) np
          refine k _ _ _ _ (kbI.trans (kb7.trans (.of_same sp))) ((hp7.upd (hp7.ne np)).mono (by omega)) (dAt_3 (txtIs _ (by simp)) upd_same (hI7.mono (TK.of_same sp)) (hd7.mono (TK.of_same sp))) (tl_of (.tm eI et)) (by simp [thenM]) ?_ ?_ ?_ (lwd_tm (tl_of (.tm eI et)) (lwd_is (tl.ty_d hvl.wok) hwl) hlw)
          · simp only [D.dep, depAll]; omega
          · rw [wt_thenM]
            simp only [wt, tsz_cons, tsz_nil]
            omega
          · simp only [D.size, sizeAll]; omega
    refine ⟨_, rfl, rfl, _, congrArg V.bl (dec 4), ?_⟩
    obtain ⟨k0, hk0⟩ : ∃ x, row[pn]? = some x := ⟨_, List.getElem?_eq_getElem hpn⟩
    obtain ⟨x0, hx0⟩ : ∃ x, ms[pn]? = some x := ⟨_, List.getElem?_eq_getElem (by omega)⟩
    have hk0m := List.mem_of_getElem? hk0
    have hk0d := bd.2.1 k0 hk0m
    have hk0w := tsz_mem hk0m
    have hdx : k0.d.size ≤ wt (row, goal) := by simp only [wt]; omega
    apply cutRule
    · intro tail
      by_cases c0 : ¬ way = 4
      · rw [decide_eq_false c0]
        exact iteF tail
      · have c0 : way = 4 := Decidable.not_not.mp c0
        rw [decide_eq_true c0]
        obtain ⟨t0, ht0, hxt⟩ := hT3.at_ hx0
        obtain rfl : t0 = k0 := Option.some.inj (ht0.symm.trans hk0)
        refine iteT ⟨_, rfl, _, rfl, _, rfl, _, rfl, _, rfl, M, ms, _, x0, rfl, rfl, hS3, atI_nat hx0, a, L, _, zs, x0, t0, rfl, dr3, by omega, hxt, by omega, tw.1 t0 hk0m, fun v5 d5 rm H5 kb5 hp5 hd5 e5 m1 m2 dp5 sz5 lw5 => ⟨_, rfl, sz4, fun p np => ?_⟩⟩
        have sp := same_upd (o := .tup [.str "cut", .int pn, v5, v]) np
        obtain ⟨r', e1⟩ : ∃ r', usedAt "cut" pn (rm, t0) (row, goal) = some r' := ⟨_, by
          have n1 : ¬ ("cut" : Str) = "over used" := by decide
          have n2 : ¬ ("cut" : Str) = "under used" := by decide
          unfold usedAt
          rw [if_pos (Int.natCast_nonneg pn)]
          simp only [Int.toNat_natCast, hk0, n1, n2, if_false, if_true]
          rfl⟩
        have w1 := wt_cut e1
        have w2 := wt_size d5.size d5 _ (Nat.le_refl _) e5
        have w3 := (wt_usedAt e1).2 (by intro z; have z : rm = [] := z; rw [z] at m1; simp at m1)
        have w1 : wt r' + 2 * t0.d.size = wt (rm, t0) + wt (row, goal) := w1
        refine k _ _ r' _ (kbH.trans (kb5.trans (.of_same sp))) ((hp5.upd (hp5.ne np)).mono (by omega)) (dAt_4 (txtIs _ (by simp)) upd_same (hd5.mono (TK.of_same sp)) ((hd3.but kb5 hp3).mono (TK.of_same sp))) (tl_of (.us (by decide) e5 et e1)) w3 ?_ ?_ ?_ (lwd_4 (tl_of (.us (by decide) e5 et e1)) lw5 hlw)
        · simp only [D.dep, depAll]; omega
        · omega
        · simp only [D.size, sizeAll]; omega
    refine ⟨_, rfl, _, rfl, _, rfl, a, _, 2, rfl, hp3, by omega, by omega, by omega, fun d4 H4 q0 q1 off4 hp4 => ?_⟩
    have kb4 : KeepBut a H3 H4 := .of_off off4
    obtain ⟨m, rfl⟩ : ∃ m : Nat, d4 = (m : Int) := ⟨d4.toNat, by omega⟩
    refine ⟨a, L, _, m, zs, rfl, hp4, by omega, dr.ne, kb4 _ _ dr3.l dr3.ne, dr.z, by omega, fun vl tl H5 hvl hsl hwl kb5 hp5 => ⟨sz2, fun N nN => ?_⟩⟩
    have sN := same_upd (o := .lst [.str "over used", .str "under used"]) nN
    have tsm := ty_dep_small tl
    have hp6 := (hp5.upd (hp5.ne nN) (o := .lst [.str "over used", .str "under used"])).mono (m := n + 10) (by omega)
    have kb6 : KeepBut a H3 (upd H5 N (.lst [.str "over used", .str "under used"])) := (kb4.trans kb5).trans (.of_same sN)
    have eN : (upd H5 N (.lst [.str "over used", .str "under used"])) N = some (.lst [.str "over used", .str "under used"]) := upd_same
    have nNa : N ≠ a := (hp5.ne nN).symm
    have hl6 := hvl.mono (TK.of_same sN)
    generalize upd H5 N (.lst [.str "over used", .str "under used"]) = H6 at hp6 kb6 eN hl6 ⊢
    refine ⟨_, rfl, a, _, 2, rfl, hp6, by omega, by omega, by omega, fun d7 H7 g0 g1 off7 hp7 => ?_⟩
    have kb7 : KeepBut a H6 H7 := .of_off off7
    have kb37 := kb6.trans kb7
    have hl7 := hl6.mono (TK.of_keepBut kb7 hp6)
    have eN7 := kb7 _ _ eN nNa
    have dr7 : Drawn H7 a L (n + 11) zs := dr3.but kb37 (hp7.mono (by omega))
    obtain ⟨nm, hnm, onm⟩ : ∃ nm : Str, atI [V.str "over used", V.str "under used"] d7 = some (.str nm) ∧ (nm = "over used" ∨ nm = "under used") := by
      by_cases c : d7 = 0
      · rw [c]
        exact ⟨_, atI_nat (j := 0) rfl, .inl rfl⟩
      · obtain rfl : d7 = 1 := by omega
        exact ⟨_, atI_nat (j := 1) rfl, .inr rfl⟩
    refine ⟨N, _, _, _, rfl, rfl, SqL.of eN7, hnm, _, rfl, _, rfl, _, rfl, _, rfl, a, L, _, zs, vl, tl, rfl, dr7, by omega, hl7, by omega, hwl, fun v5 d5 rm H8 kb8 hp8 hd5 e5 m1 m2 dp5 sz5 lw5 => ⟨_, rfl, sz4, fun p np => ?_⟩⟩
    have sp := same_upd (o := .tup [.str nm, .int pn, v5, v]) np
    obtain ⟨r', e1⟩ : ∃ r', usedAt nm pn (rm, tl) (row, goal) = some r' := by
      unfold usedAt
      rw [if_pos (Int.natCast_nonneg pn)]
      simp only [Int.toNat_natCast, hk0]
      rcases onm with e | e
      · rw [if_pos e]; exact ⟨_, rfl⟩
      · have n1 : ¬ ("under used" : Str) = "over used" := by decide
        rw [e, if_neg n1, if_pos rfl]; exact ⟨_, rfl⟩
    have w1 := (wt_usedAt e1).1
    have w2 := wt_size d5.size d5 _ (Nat.le_refl _) e5
    have w3 := (wt_usedAt e1).2 (by intro z; have z : rm = [] := z; rw [z] at m1; simp at m1)
    refine k _ _ r' _ (kbH.trans (kb37.trans (kb8.trans (.of_same sp)))) ((hp8.upd (hp8.ne np)).mono (by omega)) (dAt_4 (txtIs _ (by rcases onm with e | e <;> simp [e])) upd_same (hd5.mono (TK.of_same sp)) ((hd3.but (kb37.trans kb8) hp3).mono (TK.of_same sp))) (tl_of (.us (by rcases onm with e | e <;> rw [e] <;> decide) e5 et e1)) w3 ?_ ?_ ?_ (lwd_4 (tl_of (.us (by rcases onm with e | e <;> rw [e] <;> decide) e5 et e1)) lw5 hlw)
    · simp only [D.dep, depAll]; omega
    · omega
    · simp only [D.size, sizeAll]; omega
end
end U6

namespace U6
open PySem PySem.Spec PyProof.Rows L2 LamX KT
open PySem.W (Frag)
section
variable {P : Program} {w : World} {K : Frag} {mg : Str → Option Value} {base : Heap}
def spLDer : Sp := fun vs H Q _ => ∃ (a L : Addr) (n : Nat) (zs : List Str) (many : Int), vs = [.ref a, .ref L, .int many] ∧ Drawn H a L n zs ∧ n ≤ 100000000000 ∧ 0 ≤ many ∧ many < 8 ∧
  ∀ v' d' r' H', KeepBut a H H' → PurseAt H' a (n + 300) → DAt H' v' d' → d'.tl = some r' → r'.1 ≠ [] → r'.1.length < 6 → r'.2.signs < 5 → d'.dep ≤ 26 → d'.size ≤ 3000 → LWd zs d' → Q v' H'
theorem ok_lder {f fT fD fK fR fS : Addr} {fd dT dD dK dR dS : FuncData} (T : Top K mg "_law_derivation" sLDerivation pLDerivation f fd) (TT : Top K mg "_law_tells" sLTells pLTells fT dT) (TD : Top K mg "_law_draw" sLDraw ["purse", "many"] fD dD) (TKd : Top K mg "_law_kind" sLKind pLKind fK dK) (TR : Top K mg "_law_one_rule" sLOneRule pLOneRule fR dR) (TS : Top K mg "_law_signs" sLSigns pLSigns fS dS) (B : Blt mg)
    (GT : FnOk P w K mg base CX0 63 fT dT pLTells (spLTells 30)) (GD : FnOk P w K mg base CX0 2 fD dD ["purse", "many"] spDraw) (GK : FnOk P w K mg base CX0 6 fK dK pLKind (spKind 2)) (GR : FnOk P w K mg base CX0 64 fR dR pLOneRule spOneRule) (GS : FnOk P w K mg base CX0 61 fS dS pLSigns (spLSg 60)) : FnOk P w K mg base CX0 65 f fd pLDerivation spLDer := by
  refine T.F.ok scLDerivation (fun vs H Q E h => ?_) (fun cdv A outer s H vs Q E hr h => ?_)
  · obtain ⟨_, _, _, _, _, rfl, _⟩ := h
    rfl
  · obtain ⟨a, L, n, zs, many, rfl, dr, hn, m0, m1, k⟩ := h
    have hr2 : Room 2 _ := hr.mono (by decide)
    have hr6 : Room 6 _ := hr.mono (by decide)
    have hr61 : Room 61 _ := hr.mono (by decide)
    have hr63 : Room 63 _ := hr.mono (by decide)
    refine ⟨_, (pss_cons (ps_set (i := 3) scLDerivation.nd rfl (Or.inl rfl) (pe_tup (pa_cons pe_str (pa_cons (pe_call GK hr6 rfl TKd.g TKd.F.kp TKd.b .nil pass0 (pa_cons (pv 0) (pa_cons (pv 1) (pa_cons (pe_call GD hr2 rfl TD.g TD.F.kp TD.b .nil pass0 (pa_cons (pv 0) (pa_cons pe_int pa_nil))) pa_nil)))) pa_nil))))
      (pss_cons (ps_for PassesOwn.never rfl (pi_range1 (by rfl) B.range (pa_cons (pv 2) pa_nil)) (pg_name (i := 4) scLDerivation.nd rfl (Or.inl rfl))
        (pss_cons (ps_set (i := 5) scLDerivation.nd rfl (Or.inl rfl) (pe_call GR hr rfl TR.g TR.F.kp TR.b .nil pass0 (pa_cons (pv 0) (pa_cons (pv 1) (pa_cons (pv 3) pa_nil)))))
      (pss_one (ps_if (PW.pt (pw_and (pt_cmpR op_lt (pe_callB call_len_seq (by rfl) B.len PySem.boot_len (pa_cons (pe_ix ix_list (pe_call GT hr63 rfl TT.g TT.F.kp TT.b .nil pass0 (pa_cons (pv 5) pa_nil)) pe_int (fun _ _ => rfl)) pa_nil)) pe_int (nomark _)) (pw_and1 (pt_cmpR op_lt (pe_call GS hr61 rfl TS.g TS.F.kp TS.b .nil pass0 (pa_cons (pe_ix ix_list (pe_call GT hr63 rfl TT.g TT.F.kp TT.b .nil pass0 (pa_cons (pv 5) pa_nil)) pe_int (fun _ _ => rfl)) pa_nil)) pe_int (nomark _))))) (pss_one (ps_set (i := 3) scLDerivation.nd rfl (Or.inl rfl) (pv 5))) pss_nil))))
      (pss_one (ps_ret (pv 3))))), ?_⟩
    refine ⟨_, rfl, _, rfl, _, rfl, a, _, 2, rfl, dr.p, by omega, by omega, by omega, fun d4 H4 q0 q1 off4 hp4 => ?_⟩
    have kb4 : KeepBut a H H4 := .of_off off4
    obtain ⟨m, rfl⟩ : ∃ m : Nat, d4 = (m : Int) := ⟨d4.toNat, by omega⟩
    refine ⟨a, L, _, m, zs, rfl, hp4, by omega, dr.ne, kb4 _ _ dr.l dr.ne, dr.z, by omega, fun vl tl H5 hvl hsl hwl kb5 hp5 => ⟨by show 2 ≤ sizeLine; rw [sizeLine_eq]; omega, fun pI npI => ?_⟩⟩
    have sI := same_upd (o := .tup [.str "is", vl]) npI
    have tsm := ty_dep_small tl
    refine ⟨_, rfl, many, rfl, by omega, by omega, ?_⟩
    refine for_range (lo := 0) (n := many.toNat) (fun i σ H' => ∃ (v4 v5 : Option V) (v : V) (d : D) (r : Told), σ = [some (.ref a), some (.ref L), some (.int many), some v, v4, v5] ∧ KeepBut a H H' ∧ PurseAt H' a (n + 10 + 30 * i) ∧ DAt H' v d ∧ d.tl = some r ∧ r.1 ≠ [] ∧ r.1.length < 6 ∧ r.2.signs < 5 ∧ d.dep ≤ 3 * i + 3 ∧ wt r ≤ 10 + 60 * i ∧ d.size ≤ 10 + 400 * i ∧ LWd zs d)
      ⟨none, none, .ref pI, .t [.s "is", tl.d], ([tl], tl), rfl, (kb4.trans kb5).trans (.of_same sI), (hp5.upd (hp5.ne npI)).mono (by omega), dAt_is upd_same (hvl.mono (TK.of_same sI)).d, tl_of (.is (tl.ty_d hvl.wok)), by simp, by simp, by show tl.signs < 5; omega, by simp only [D.dep, depAll]; omega, by simp only [wt, tsz_cons, tsz_nil]; omega, by simp only [D.size, sizeAll]; omega, lwd_is (tl.ty_d hvl.wok) hwl⟩ ?_ ?_
    · rintro i σ H6 hi ⟨v4, v5, v, d, r, rfl, kb6, hp6, hd6, et, hne, hl, hsg, hdp, hw, hz, hlw⟩
      have hi7 : i < 7 := by omega
      refine ⟨_, rfl, _, rfl, _, rfl, a, L, _, zs, v, d, r, rfl, dr.but kb6 hp6, by omega, hd6, et, hne, by omega, by omega, hlw, fun v' d' r' H7 kb7 hp7 hd7 et' hne' dp7 w7 z7 lw7 => ?_⟩
      have kb67 := kb6.trans kb7
      have hd6' := hd6.but kb7 hp6
      refine ⟨_, rfl, v', d', rfl, hd7, by omega, by omega, by omega, fun v8 H8 s8 r8 => ?_⟩
      rw [et'] at r8
      obtain ⟨q, M, ms, g, rfl, eq, eM, hT, hg⟩ := r8
      have lT := hT.length
      refine ⟨q, _, _, _, rfl, rfl, SqL.of eq, atI_nat (j := 0) rfl, M, ms, rfl, .inl (SqL.of eM), _, _, rfl, rfl, _, rfl, ?_⟩
      have hp8 : PurseAt H8 a (n + 10 + 30 * i + 30) := by
        obtain ⟨p0, p1, p2, p3, e, rr⟩ := hp7
        exact ⟨p0, p1, p2, p3, s8 _ _ e, rr⟩
      have kb68 := kb67.trans (.of_same s8)
      by_cases c : (ms.length : Int) < 6
      · rw [decide_eq_true c]
        refine iteT ⟨_, rfl, v', d', rfl, hd7.mono (TK.of_same s8), by omega, by omega, by omega, fun v9 H9 s9 r9 => ?_⟩
        rw [et'] at r9
        obtain ⟨q9, M9, ms9, g9, rfl, eq9, eM9, hT9, hg9⟩ := r9
        have bd := tl_bd d'.size d' _ (Nat.le_refl _) et'
        have bd2 := bd.2.2
        have hp9 : PurseAt H9 a (n + 10 + 30 * i + 30) := by
          obtain ⟨p0, p1, p2, p3, e, rr⟩ := hp8
          exact ⟨p0, p1, p2, p3, s9 _ _ e, rr⟩
        have kb69 := kb68.trans (.of_same s9)
        have tk89 := TK.of_same (s8.trans s9)
        refine ⟨q9, _, _, _, rfl, rfl, SqL.of eq9, atI_nat (j := 1) rfl, g9, r'.2, rfl, hg9, by omega, _, _, rfl, rfl, _, rfl, ?_⟩
        by_cases c2 : (r'.2.signs : Int) < 5
        · rw [decide_eq_true c2]
          refine iteT ⟨_, rfl, ?_⟩
          exact ⟨_, _, v', d', r', rfl, kb69, hp9.mono (by omega), hd7.mono tk89, et', hne', by omega, by omega, by omega, by omega, by omega, lw7⟩
        · rw [decide_eq_false c2]
          refine iteF ?_
          exact ⟨_, _, v, d, r, rfl, kb69, hp9.mono (by omega), hd6'.mono tk89, et, hne, hl, hsg, by omega, by omega, by omega, hlw⟩
      · rw [decide_eq_false c]
        refine iteF (iteF ?_)
        exact ⟨_, _, v, d, r, rfl, kb68, hp8.mono (by omega), hd6'.mono (TK.of_same s8), et, hne, hl, hsg, by omega, by omega, by omega, hlw⟩
    · rintro σ H6 ⟨v4, v5, v, d, r, rfl, kb6, hp6, hd6, et, hne, hl, hsg, hdp, hw, hz, hlw⟩
      exact ⟨_, rfl, k v d r H6 kb6 (hp6.mono (by omega)) hd6 et hne hl hsg (by omega) (by omega) hlw⟩
end
end U6

namespace U6
open PySem PySem.Spec PyProof.Rows L2 LamX KT
open PySem.W (Frag)
def sw3 {α : Type} : List α → List α
  | [a, b, c] => [c, b, a]
  | _ => []
theorem sw3_vals {zs : List V} {ws : List Value} (h : Vals zs ws) : Vals (sw3 zs) (sw3 ws) := by
  cases h with
  | nil => exact .nil
  | cons a h =>
    cases h with
    | nil => exact .nil
    | cons b h =>
      cases h with
      | nil => exact .nil
      | cons c h =>
        cases h with
        | nil => exact .cons c (.cons b (.cons a .nil))
        | cons _ _ => exact .nil
theorem SameDt.tyd {H : Hp} {v v' : V} {t : Ty} (h : TyAt H v t) : TyAt H v' t → SameDt H t.d.dep v v' := by
  induction h generalizing v' with
  | w h =>
    intro h'
    cases h'
    exact .scl (.s _)
  | @n p g x y a b e h1 h2 i j =>
    intro h'
    cases h' with
    | @n p' _ x' y' _ _ e' k1 k2 =>
      rw [dep_n]
      refine .inr ⟨p, p', _, _, rfl, rfl, .inr ⟨e, e'⟩, rfl, by show 3 ≤ 1000000; omega, fun i' u u' h3 h4 => ?_⟩
      match i', h3, h4 with
      | 0, h3, h4 =>
        obtain rfl := Option.some.inj h3
        obtain rfl := Option.some.inj h4
        exact .scl (.s _)
      | 1, h3, h4 =>
        obtain rfl := Option.some.inj h3
        obtain rfl := Option.some.inj h4
        exact (i k1).le (by omega)
      | 2, h3, h4 =>
        obtain rfl := Option.some.inj h3
        obtain rfl := Option.some.inj h4
        exact (j k2).le (by omega)
      | n + 3, h3, h4 => exact absurd h3 (by simp)
theorem SameDt.lst {H : Hp} {p q : Addr} {xs ys : List V} {k : Nat} (e : H p = some (.lst xs)) (e' : H q = some (.lst ys)) (l : xs.length = ys.length) (m : xs.length ≤ 1000000) (h : ∀ (i : Nat) (x y : V), xs[i]? = some x → ys[i]? = some y → SameDt H k x y) : SameDt H (k + 1) (.ref p) (.ref q) := .inr ⟨p, q, xs, ys, rfl, rfl, .inl ⟨e, e'⟩, l, m, h⟩
theorem SameDt.tup {H : Hp} {p q : Addr} {xs ys : List V} {k : Nat} (e : H p = some (.tup xs)) (e' : H q = some (.tup ys)) (l : xs.length = ys.length) (m : xs.length ≤ 1000000) (h : ∀ (i : Nat) (x y : V), xs[i]? = some x → ys[i]? = some y → SameDt H k x y) : SameDt H (k + 1) (.ref p) (.ref q) := .inr ⟨p, q, xs, ys, rfl, rfl, .inr ⟨e, e'⟩, l, m, h⟩
theorem two_same {H : Hp} {k : Nat} {a b a' b' : V} (h : SameDt H k a a') (h' : SameDt H k b b') : ∀ (i : Nat) (x y : V), [a, b][i]? = some x → [a', b'][i]? = some y → SameDt H k x y := by
  intro i x y h1 h2
  match i, h1, h2 with
  | 0, h1, h2 =>
    obtain rfl := Option.some.inj h1
    obtain rfl := Option.some.inj h2
    exact h
  | 1, h1, h2 =>
    obtain rfl := Option.some.inj h1
    obtain rfl := Option.some.inj h2
    exact h'
  | n + 2, h1, h2 => exact absurd h1 (by simp)
theorem SameDt.row {H : Hp} {p q : Addr} {us vs : List V} {ts : List Ty} {k : Nat} (e : H p = some (.lst us)) (e' : H q = some (.lst vs)) (h : Tys H us ts) (h' : Tys H vs ts) (m : ts.length ≤ 40000) (dk : ∀ t ∈ ts, t.d.dep ≤ k) : SameDt H (k + 1) (.ref p) (.ref q) := by
  refine .lst e e' (by rw [h.length, h'.length]) (by rw [h.length]; omega) fun i x y h1 h2 => ?_
  obtain ⟨t, ht, hx⟩ := h.at_ h1
  obtain ⟨t', ht', hy⟩ := h'.at_ h2
  obtain rfl := Option.some.inj (ht.symm.trans ht')
  exact (SameDt.tyd hx hy).le (dk _ (List.mem_of_getElem? ht))
/-- what is told twice is told alike -/
theorem told_same {H : Hp} {p q L M : Addr} {g g' : V} {us vs : List V} {r : Told} {k : Nat} (e : H p = some (.tup [.ref L, g])) (e' : H q = some (.tup [.ref M, g'])) (eL : H L = some (.lst us)) (eM : H M = some (.lst vs)) (h : Tys H us r.1) (h' : Tys H vs r.1) (hg : TyAt H g r.2) (hg' : TyAt H g' r.2) (m : r.1.length ≤ 40000) (dk : ∀ t ∈ r.1, t.d.dep ≤ k) (dg : r.2.d.dep ≤ k) : SameDt H (k + 2) (.ref p) (.ref q) :=
  .tup e e' rfl (by show 2 ≤ _; omega) (two_same (.row eL eM h h' m dk) ((SameDt.tyd hg hg').le (by omega)))
theorem row_dp {K : Frag} {H : Hp} {L : Addr} {us : List V} {ts : List Ty} (e : H L = some (.lst us)) (h : Tys H us ts) (dk : ∀ t ∈ ts, t.d.dep ≤ 60) : Dp K H (.ref L) (.list (ts.map fun t => t.d.py)) ∧ SeqAt.shaped (.list (ts.map fun t => t.d.py)) = true := by
  obtain ⟨a1, a2⟩ := tys_dp (K := K) h
  refine ⟨.lst (SqL.of e) a1, ?_⟩
  have q := depAll_py (ts.map fun t => t.d.py) 60 fun x hx => by
    obtain ⟨t, ht, rfl⟩ := List.mem_map.mp hx
    rw [dep_py]
    exact dk t ht
  unfold SeqAt.shaped
  have c : (PyData.list (ts.map fun t => t.d.py)).canLay0 = true := by simp only [PyData.canLay0, canAll_py _ a2]
  have dd : (PyData.list (ts.map fun t => t.d.py)).depth ≤ 64 := by simp only [PyData.depth]; omega
  rw [c, Bool.true_and]
  exact decide_eq_true dd
theorem ty_dp {K : Frag} {H : Hp} {x : V} {t : Ty} (h : TyAt H x t) (dk : t.d.dep ≤ 60) : Dp K H x t.d.py ∧ SeqAt.shaped t.d.py = true := ⟨(DAt.py (K := K) h.d).1, DAt.shaped (K := K) h.d (by omega)⟩
theorem eqv_rows (l r : List Ty) : PyData.eqv (.list (l.map fun t => t.d.py)) (.list (r.map fun t => t.d.py)) = decide (l = r) := by
  simp only [PyData.eqv, eqvAll_ty]
/-- a row and a goal -/
def PR (H : Hp) (x : V) : Prop := ∃ ts t, Res (fun _ => True) H x (some (ts, t)) ∧ RowOk ts ∧ t.d.dep ≤ 60 ∧ t.d.size ≤ 1000000
theorem PR.same {H H' : Hp} {x : V} (h : PR H x) (s : Same H H') : PR H' x := by
  obtain ⟨ts, t, h1, h2⟩ := h
  exact ⟨ts, t, h1.same (fun _ h => h) s, h2⟩
theorem pr_mk {H : Hp} {p R : Addr} {g : V} {us : List V} {ts : List Ty} {t : Ty} (ep : H p = some (.tup [.ref R, g])) (eR : H R = some (.lst us)) (hT : Tys H us ts) (hg : TyAt H g t) (ro : RowOk ts) (dt : t.d.dep ≤ 60) (zt : t.d.size ≤ 1000000) : PR H (.ref p) := ⟨ts, t, ⟨p, R, us, g, rfl, trivial, ep, eR, hT, hg⟩, ro, dt, zt⟩
theorem Tys.rev {H : Hp} {us : List V} {ts : List Ty} (h : Tys H us ts) : Tys H us.reverse ts.reverse := by
  induction h with
  | nil => exact .nil
  | cons a _ ih => rw [List.reverse_cons, List.reverse_cons]; exact ih.append (.cons a .nil)
/-- a row, not empty, and a goal -/
def RG (H : Hp) (R : Addr) (g : V) : Prop := ∃ us ts t, H R = some (.lst us) ∧ Tys H us ts ∧ TyAt H g t ∧ RowOk ts ∧ ts ≠ [] ∧ t.d.dep ≤ 60 ∧ t.d.size ≤ 1000000
section
variable {P : Program} {w : World} {K : Frag} {mg : Str → Option Value} {base : Heap}
def spOneRight : Sp := fun vs H Q _ => ∃ (a L : Addr) (v : V) (d : D) (r : Told), vs = [.ref a, .ref L, v] ∧ DAt H v d ∧ d.tl = some r ∧ r.1 ≠ [] ∧ r.1.length < 6 ∧ r.2.signs < 5 ∧ d.dep ≤ 26 ∧ d.size ≤ 3000 ∧ ∀ H', Same H H' → Q (.bl true) H'
end
end U6

namespace U6
open PySem PySem.Spec PyProof.Rows L2 LamX KT
open PySem.W (Frag)
/-- the deep one -/
def dpD (z : Str) : Nat → D
  | 0 => .t [.s "is", .s z]
  | n + 1 => .t [.s "over made", .t [.s "over used", .i 0, .t [.s "is", .s z], dpD z n]]
def dpT (z : Str) : Nat → Ty
  | 0 => .w z
  | n + 1 => .n .ov (dpT z n) (.w z)
theorem dp_tl {z : Str} (h : IsW z) : ∀ n, (dpD z n).tl = some ([dpT z n], dpT z n)
  | 0 => opD_tl (.w z) h
  | n + 1 => tl_of (.om (rx := ([dpT z (n + 1), .w z], dpT z n)) (tl_of (.us (by decide) (opD_tl (.w z) h) (dp_tl h n) (by simp [usedAt, dpT]))) (by simp [madeO, dpT]))
theorem dp_size (z : Str) : ∀ n, (dpD z n).size = 8 * n + 3 ∧ (dpD z n).dep = 2 * n + 1 ∧ (dpT z n).d.dep = n ∧ (dpT z n).d.size = 3 * n + 1
  | 0 => by simp [dpD, dpT, D.size, sizeAll, D.dep, depAll, Ty.d]
  | n + 1 => by
    obtain ⟨a, b, c, d⟩ := dp_size z n
    refine ⟨?_, ?_, ?_, ?_⟩
    · simp only [dpD, D.size, sizeAll, a]; omega
    · simp only [dpD, D.dep, depAll, b]; omega
    · simp only [dpT, dep_n, c]; simp only [Ty.d, D.dep]; omega
    · simp only [dpT, size_n, d]; simp only [Ty.d, D.size]; omega
theorem dp_nodes {z : Str} (h : IsW z) : ∀ n, (dpD z n).nodes.length = 3 * n + 1 ∧ cutsN (dpD z n) = 0
  | 0 => by
    have f : Fm (.t [.s "is", .s z]) := (allK_fm (tl_allK _ _ _ (Nat.le_refl _) (dp_tl h 0))).1
    have e1 := nodes_sum f
    have e2 := cuts_sum f
    have ep : (D.t [.s "is", .s z]).parts = [] := by simp [D.parts]
    have ec : (D.t [.s "is", .s z]).isCut = false := by
        show decide (("is" : Str) = "cut") = false
        decide +kernel
    rw [ep] at e1 e2
    rw [ec] at e2
    exact ⟨e1, e2⟩
  | n + 1 => by
    obtain ⟨i, j⟩ := dp_nodes h n
    obtain ⟨i0, j0⟩ : (D.t [.s "is", .s z]).nodes.length = 1 ∧ cutsN (.t [.s "is", .s z]) = 0 := by
      have f : Fm (.t [.s "is", .s z]) := (allK_fm (tl_allK _ _ _ (Nat.le_refl _) (dp_tl h 0))).1
      have e1 := nodes_sum f
      have e2 := cuts_sum f
      have ep : (D.t [.s "is", .s z]).parts = [] := by simp [D.parts]
      have ec : (D.t [.s "is", .s z]).isCut = false := by
        show decide (("is" : Str) = "cut") = false
        decide +kernel
      rw [ep] at e1 e2
      rw [ec] at e2
      exact ⟨e1, e2⟩
    have f1 : Fm (.t [.s "over used", .i 0, .t [.s "is", .s z], dpD z n]) := .ou (Int.le_refl 0)
    have f2 : Fm (.t [.s "over made", .t [.s "over used", .i 0, .t [.s "is", .s z], dpD z n]]) := .om
    have a1 := nodes_sum f1
    have a2 := nodes_sum f2
    have b1 := cuts_sum f1
    have b2 := cuts_sum f2
    have p1 : (D.t [.s "over used", .i 0, .t [.s "is", .s z], dpD z n]).parts = [.t [.s "is", .s z], dpD z n] := by simp [D.parts]
    have p2 : (D.t [.s "over made", .t [.s "over used", .i 0, .t [.s "is", .s z], dpD z n]]).parts = [.t [.s "over used", .i 0, .t [.s "is", .s z], dpD z n]] := by
      have e1 : ¬ ("over made" : Str) = "is" := by decide
      simp [D.parts, e1]
    have c1 : (D.t [.s "over used", .i 0, .t [.s "is", .s z], dpD z n]).isCut = false := by
      show decide (("over used" : Str) = "cut") = false
      decide +kernel
    have c2 : (D.t [.s "over made", .t [.s "over used", .i 0, .t [.s "is", .s z], dpD z n]]).isCut = false := by
      show decide (("over made" : Str) = "cut") = false
      decide +kernel
    rw [p1] at a1 b1
    rw [p2] at a2 b2
    rw [c1] at b1
    rw [c2] at b2
    simp only [List.map_cons, List.map_nil, List.sum_cons, List.sum_nil, i, j, i0, j0] at a1 b1
    simp only [List.map_cons, List.map_nil, List.sum_cons, List.sum_nil, a1, b1] at a2 b2
    exact ⟨by show (D.t _).nodes.length = _; rw [a2]; omega, by show cutsN (D.t _) = _; rw [b2]; decide⟩
theorem SameDt.d {H : Hp} : ∀ (n : Nat) {v v' : V} {u : D}, u.size ≤ n → n ≤ 40000 → DAt H v u → DAt H v' u → SameDt H u.dep v v' := by
  intro n
  induction n with
  | zero => intro v v' u h; have := u.size_pos; omega
  | succ n ih =>
    intro v v' u hz hn h h'
    cases h with
    | s h => cases h'; exact .scl (.s _)
    | i j => cases h'; exact .scl (.i _)
    | o => cases h'; exact .scl .o
    | @t p xs ds e hs =>
      cases h' with
      | @t p' ys _ e' hs' =>
        simp only [D.size] at hz
        have ll := len_size ds
        simp only [D.dep]
        refine .tup e e' (by rw [hs.length, hs'.length]) (by rw [hs.length]; omega) fun i x y h1 h2 => ?_
        obtain ⟨u, hu, hx⟩ := hs.at_ h1
        obtain ⟨u', hu', hy⟩ := hs'.at_ h2
        obtain rfl := Option.some.inj (hu.symm.trans hu')
        have mu := List.mem_of_getElem? hu
        have zm := size_mem mu
        have dm := dep_mem mu
        exact (ih (by omega) (by omega) hx hy).le dm
theorem lres_dp {K : Frag} {H : Hp} {v : V} {r : Told} (h : LRes H v (some r)) (s2 : ∀ t ∈ r.1, t.d.dep ≤ 60) (s3 : r.2.d.dep ≤ 60) : Dp K H v (.list [.list (r.1.map fun t => t.d.py), r.2.d.py]) ∧ SeqAt.shaped (.list [.list (r.1.map fun t => t.d.py), r.2.d.py]) = true := by
  obtain ⟨p, L, us, g, rfl, ep, eL, hT, hg⟩ := h
  obtain ⟨a1, a2⟩ := tys_dp (K := K) hT
  obtain ⟨b1, b2, _⟩ := DAt.py (K := K) hg.d
  refine ⟨.lst (SqL.of ep) (.cons (.lst (SqL.of eL) a1) (.cons b1 .nil)), ?_⟩
  have c : (PyData.list [.list (r.1.map fun t => t.d.py), r.2.d.py]).canLay0 = true := by simp only [PyData.canLay0, PyData.canLayAll0, canAll_py _ a2, b2, Bool.and_self]
  have dd : (PyData.list [.list (r.1.map fun t => t.d.py), r.2.d.py]).depth ≤ 64 := by
    have q := depAll_py (r.1.map fun t => t.d.py) 60 fun x hx => by
      obtain ⟨t, ht, rfl⟩ := List.mem_map.mp hx
      rw [dep_py]
      exact s2 t ht
    have q2 : r.2.d.py.depth ≤ 60 := by rw [dep_py]; exact s3
    simp only [PyData.depth, PyData.depthAll]
    omega
  unfold SeqAt.shaped
  rw [c, Bool.true_and]
  exact decide_eq_true dd
theorem eqv_lres (a b : Told) : PyData.eqv (.list [.list (a.1.map fun t => t.d.py), a.2.d.py]) (.list [.list (b.1.map fun t => t.d.py), b.2.d.py]) = decide (a = b) := by
  obtain ⟨a1, a2⟩ := a
  obtain ⟨b1, b2⟩ := b
  simp only [PyData.eqv, PyData.eqvAll, eqvAll_ty, eqv_ty, Prod.mk.injEq]
  by_cases h1 : a1 = b1 <;> by_cases h2 : a2 = b2 <;> simp [h1, h2]
section
variable {P : Program} {w : World} {K : Frag} {mg : Str → Option Value} {base : Heap}
def spLaw (K : Frag) : Sp := fun vs H Q _ => ∃ (a : Addr) (ns : List Int), vs = [.ref a] ∧ SqL K H a (ns.map V.int) ∧ ∀ H', Q (.bl true) H'
end
end U6

namespace U6
open PySem PySem.Spec PyProof.Rows L2 LamX KT
open PySem.W (Frag)
/-! ### expressions that come to data -/
/-- from any heap that keeps H0 the expression comes to something that bears d -/
def Yd (t : TE) (σ : L2.St) (H0 : Hp) (d : D) : Prop := ∀ H, Same H0 H → ∀ Q : VK, (∀ v H', Same H H' → DAt H' v d → Q v H') → t σ H Q
def YdA (t : TA) (σ : L2.St) (H0 : Hp) (ds : List D) : Prop := ∀ H, Same H0 H → ∀ Q : List V → Hp → Prop, (∀ vs H', Same H H' → DsAt H' vs ds → Q vs H') → t σ H Q
theorem Yd.mono {t : TE} {σ : L2.St} {H0 H1 : Hp} {d : D} (h : Yd t σ H0 d) (s : Same H0 H1) : Yd t σ H1 d := fun H s1 => h H (s.trans s1)
theorem yd_var {i : Nat} {σ : L2.St} {H0 : Hp} {v : V} {d : D} (e : σ[i]? = some (some v)) (h : DAt H0 v d) : Yd (tVar i) σ H0 d := fun H s Q q => ⟨v, e, q v H (Same.refl H) (h.mono (TK.of_same s))⟩
theorem yd_str {σ : L2.St} {H0 : Hp} {z : Str} (ok : TxtOk z) : Yd (tC (.str z)) σ H0 (.s z) := fun H _ Q q => q _ H (Same.refl H) (.s ok)
theorem yd_int {σ : L2.St} {H0 : Hp} {n : Int} : Yd (tC (.int n)) σ H0 (.i n) := fun H _ Q q => q _ H (Same.refl H) (.i n)
theorem yda_nil {σ : L2.St} {H0 : Hp} : YdA tNil σ H0 [] := fun H _ Q q => q [] H (Same.refl H) .nil
theorem yda_cons {t : TE} {tr : TA} {σ : L2.St} {H0 : Hp} {d : D} {ds : List D} (h : Yd t σ H0 d) (hr : YdA tr σ H0 ds) : YdA (tCons t tr) σ H0 (d :: ds) := fun H s Q q =>
  h H s _ fun v H1 s1 hv => hr H1 (s.trans s1) _ fun vs H2 s2 hvs => q (v :: vs) H2 (s1.trans s2) (.cons (hv.mono (TK.of_same s2)) hvs)
theorem yd_tup {t : TA} {σ : L2.St} {H0 : Hp} {ds : List D} (h : YdA t σ H0 ds) (l : ds.length ≤ 100) : Yd (tTup t) σ H0 (.t ds) := fun H s Q q =>
  h H s _ fun vs H1 s1 hvs => ⟨by rw [hvs.length, sizeLine_eq]; omega, fun p np => q _ _ (s1.trans (same_upd np)) (.t upd_same (hvs.mono (TK.upd_new np)))⟩
theorem yda1 {t : TE} {σ : L2.St} {H0 : Hp} {d : D} (h : Yd t σ H0 d) : YdA (tCons t tNil) σ H0 [d] := yda_cons h yda_nil
theorem yda2 {t u : TE} {σ : L2.St} {H0 : Hp} {d e : D} (h : Yd t σ H0 d) (h' : Yd u σ H0 e) : YdA (tCons t (tCons u tNil)) σ H0 [d, e] := yda_cons h (yda1 h')
theorem yda3 {t u w : TE} {σ : L2.St} {H0 : Hp} {d e f : D} (h : Yd t σ H0 d) (h' : Yd u σ H0 e) (h'' : Yd w σ H0 f) : YdA (tCons t (tCons u (tCons w tNil))) σ H0 [d, e, f] := yda_cons h (yda2 h' h'')
theorem yda4 {t u w x : TE} {σ : L2.St} {H0 : Hp} {d e f g : D} (h : Yd t σ H0 d) (h' : Yd u σ H0 e) (h'' : Yd w σ H0 f) (h3 : Yd x σ H0 g) : YdA (tCons t (tCons u (tCons w (tCons x tNil)))) σ H0 [d, e, f, g] := yda_cons h (yda3 h' h'' h3)
/-- a text, and others behind it -/
theorem yt2 {t : TE} {σ : L2.St} {H0 : Hp} {z : Str} {d : D} (ok : TxtOk z) (h : Yd t σ H0 d) : Yd (tTup (tCons (tC (.str z)) (tCons t tNil))) σ H0 (.t [.s z, d]) := yd_tup (yda2 (yd_str ok) h) (by simp)
theorem yt3 {t u : TE} {σ : L2.St} {H0 : Hp} {z : Str} {d e : D} (ok : TxtOk z) (h : Yd t σ H0 d) (h' : Yd u σ H0 e) : Yd (tTup (tCons (tC (.str z)) (tCons t (tCons u tNil)))) σ H0 (.t [.s z, d, e]) := yd_tup (yda3 (yd_str ok) h h') (by simp)
theorem yt4 {t u w : TE} {σ : L2.St} {H0 : Hp} {z : Str} {d e f : D} (ok : TxtOk z) (h : Yd t σ H0 d) (h' : Yd u σ H0 e) (h'' : Yd w σ H0 f) : Yd (tTup (tCons (tC (.str z)) (tCons t (tCons u (tCons w tNil))))) σ H0 (.t [.s z, d, e, f]) := yd_tup (yda4 (yd_str ok) h h' h'') (by simp)
/-- an item of a tuple of data -/
theorem yd_ixT {K : Frag} {t : TE} {σ : L2.St} {H0 : Hp} {ds : List D} {d : D} {i : Nat} (h : Yd t σ H0 (.t ds)) (e : ds[i]? = some d) : Yd (tOp (rIxT K) t (tC (.int (i : Int)))) σ H0 d := fun H s Q q => h H s _ fun v H1 s1 hv => by
  cases hv with
  | @t p xs _ ex hx =>
    obtain ⟨hi, _⟩ := List.getElem?_eq_some_iff.mp e
    have hl := hx.length
    obtain ⟨x, ee⟩ : ∃ x, xs[i]? = some x := ⟨xs[i], List.getElem?_eq_getElem (by omega)⟩
    obtain ⟨d', e', hd⟩ := hx.at_ ee
    obtain rfl := Option.some.inj (e'.symm.trans e)
    exact ⟨p, xs, (i : Int), x, rfl, rfl, SqT.of ex, atI_nat ee, q x H1 s1 hd⟩
/-- a call, all of whose arguments are data -/
theorem yd_call {sp : Sp} {E : XK} {t : TA} {σ : L2.St} {H0 : Hp} {ds : List D} {d : D} (h : YdA t σ H0 ds) (c : ∀ vs H Q, Same H0 H → DsAt H vs ds → (∀ v H', Same H H' → DAt H' v d → Q v H') → sp vs H Q E) : Yd (tCall sp [] E t) σ H0 d := fun H s Q q =>
  h H s _ fun vs H1 s1 hvs => by
    rw [List.append_nil]
    exact c vs H1 Q (s.trans s1) hvs fun v H' s' hv => q v H' (s1.trans s') hv
theorem gN {i : Nat} {v : V} {σ : L2.St} {H : Hp} {Q : L2.St → Hp → Prop} (h : Q (σ.set i (some v)) H) : gName i v σ H Q := h
/-- name = data -/
theorem yd_set {te : TE} {i : Nat} {u : TS} {D0 : Ends} {σ : L2.St} {H H0 : Hp} {d : D} (y : Yd te σ H0 d) (s : Same H0 H) (q : ∀ v H', Same H H' → DAt H' v d → u D0 (σ.set i (some v)) H') : tSeq (tAsg te (gName i)) u D0 σ H := y H s _ fun v H' s' h => q v H' s' h
theorem yd_ret {te : TE} {D0 : Ends} {σ : L2.St} {H H0 : Hp} {d : D} (y : Yd te σ H0 d) (s : Same H0 H) (q : ∀ v H', Same H H' → DAt H' v d → D0.rt v H') : tRet te D0 σ H := y H s _ fun v H' s' h => q v H' s' h
/-- a list of data, in a new list -/
theorem yda_lst {t : TA} {σ : L2.St} {H H0 : Hp} {ds : List D} {Q : VK} (y : YdA t σ H0 ds) (s : Same H0 H) (l : ds.length ≤ 100) (q : ∀ (L : Addr) vs H', Same H H' → H L = none → H' L = some (.lst vs) → DsAt H' vs ds → Q (.ref L) H') : tLst t σ H Q := y H s _ fun vs H1 s1 hvs => ⟨by rw [hvs.length, sizeLine_eq]; omega, fun L nL => q L vs _ (s1.trans (same_upd nL)) (s1.free nL) upd_same (hvs.mono (TK.upd_new nL))⟩
theorem yda_ret {t : TA} {D0 : Ends} {σ : L2.St} {H H0 : Hp} {ds : List D} (y : YdA t σ H0 ds) (s : Same H0 H) (l : ds.length ≤ 100) (q : ∀ (L : Addr) vs H', Same H H' → H L = none → H' L = some (.lst vs) → DsAt H' vs ds → D0.rt (.ref L) H') : tRet (tLst t) D0 σ H := yda_lst y s l q
theorem tx_over : TxtOk "over" := ⟨by decide +kernel, by decide +kernel⟩
theorem tx_under : TxtOk "under" := ⟨by decide +kernel, by decide +kernel⟩
theorem tx_then : TxtOk "then" := ⟨by decide +kernel, by decide +kernel⟩
end U6

namespace U6
open PySem PySem.Spec PyProof.Rows L2 LamX KT
open PySem.W (Frag)
/-! ### lists of data -/
def YdL (t : TE) (σ : L2.St) (H0 : Hp) (ds : List D) : Prop := ∀ H, Same H0 H → ∀ Q : VK, (∀ (L : Addr) vs H', Same H H' → H' L = some (.lst vs) → DsAt H' vs ds → Q (.ref L) H') → t σ H Q
theorem ydl_lst {t : TA} {σ : L2.St} {H0 : Hp} {ds : List D} (h : YdA t σ H0 ds) (l : ds.length ≤ 100) : YdL (tLst t) σ H0 ds := fun H s Q q => yda_lst h s l fun L vs H' s' _ e hv => q L vs H' s' e hv
theorem ydl_var {i : Nat} {σ : L2.St} {H0 : Hp} {L : Addr} {vs : List V} {ds : List D} (e : σ[i]? = some (some (.ref L))) (eL : H0 L = some (.lst vs)) (h : DsAt H0 vs ds) : YdL (tVar i) σ H0 ds := fun H s Q q => ⟨_, e, q L vs H (Same.refl H) (s _ _ eL) (h.mono (TK.of_same s))⟩
theorem ydl_cat {t u : TE} {σ : L2.St} {H0 : Hp} {ds es : List D} (h : YdL t σ H0 ds) (h' : YdL u σ H0 es) (l : ds.length + es.length ≤ 1000) : YdL (tOp rCat t u) σ H0 (ds ++ es) := fun H s Q q =>
  h H s _ fun L vs H1 s1 e1 d1 => h' H1 (s.trans s1) _ fun M us H2 s2 e2 d2 => ⟨L, M, vs, us, rfl, rfl, s2 _ _ e1, e2, by rw [d1.length, d2.length, sizeLine_eq]; omega, fun p np => q p _ _ ((s1.trans s2).trans (same_upd np)) upd_same (((d1.mono (TK.of_same s2)).append d2).mono (TK.upd_new np))⟩
/-- an index that is known -/
def Yi (t : TE) (σ : L2.St) (H0 : Hp) (i : Int) : Prop := ∀ H, Same H0 H → ∀ Q : VK, Q (.int i) H → t σ H Q
theorem yi_int {σ : L2.St} {H0 : Hp} {i : Int} : Yi (tC (.int i)) σ H0 i := fun _ _ _ q => q
theorem yi_var {i : Nat} {n : Int} {σ : L2.St} {H0 : Hp} (e : σ[i]? = some (some (.int n))) : Yi (tVar i) σ H0 n := fun _ _ _ q => ⟨_, e, q⟩
theorem yd_ixL {K : Frag} {t ti : TE} {σ : L2.St} {H0 : Hp} {ds : List D} {d : D} {i : Nat} (h : YdL t σ H0 ds) (hi : Yi ti σ H0 (i : Int)) (e : ds[i]? = some d) : Yd (tOp (rIxL K) t ti) σ H0 d := fun H s Q q =>
  h H s _ fun L vs H1 s1 e1 d1 => hi H1 (s.trans s1) _ (by
    obtain ⟨hi', _⟩ := List.getElem?_eq_some_iff.mp e
    have hl := d1.length
    obtain ⟨x, ee⟩ : ∃ x, vs[i]? = some x := ⟨vs[i], List.getElem?_eq_getElem (by omega)⟩
    obtain ⟨d', e', hd⟩ := d1.at_ ee
    obtain rfl := Option.some.inj (e'.symm.trans e)
    exact ⟨L, vs, (i : Int), x, rfl, rfl, SqL.of e1, atI_nat ee, q x H1 s1 hd⟩)
theorem ydl_set {te : TE} {i : Nat} {u : TS} {D0 : Ends} {σ : L2.St} {H H0 : Hp} {ds : List D} (y : YdL te σ H0 ds) (s : Same H0 H) (q : ∀ (L : Addr) vs H', Same H H' → H' L = some (.lst vs) → DsAt H' vs ds → u D0 (σ.set i (some (.ref L))) H') : tSeq (tAsg te (gName i)) u D0 σ H := y H s _ fun L vs H' s' e h => q L vs H' s' e h
theorem yd_ret' {te : TE} {D0 : Ends} {σ : L2.St} {H H0 : Hp} {d : D} (y : Yd te σ H0 d) (s : Same H0 H) (q : ∀ v H', Same H H' → DAt H' v d → D0.rt v H') : tRet te D0 σ H := yd_ret y s q
end U6

namespace U6
open PySem PySem.Spec PyProof.Rows L2 NdefX LamX KT
open PySem.W (Frag)
section
variable {P : Program} {w : World} {K : Frag} {mg : Str → Option Value} {base : Heap}
/-- a def of the top whose code object is at c -/
structure TopC (K : Frag) (mg : Str → Option Value) (x : Str) (st : Stmt) (ps : List Str) (f : Addr) (fd : FuncData) (c : Addr) : Prop where
  T : Top K mg x st ps f fd
  ex : ∃ (oc : Value) (od : Option Addr) (kV doc pm : Value) (an : Option Addr) (ct : Value) (osl : Array (Option Value)),
    fd = PySem.W.fnOf x x (defArgs st) (defBody st) (defScope st) .none kV doc pm an (.ref c) ct ∧ K.lookup f = some ⟨oc, od, .func fd, osl⟩ ∧ PySem.W.codeIn K (.ref c) x = true
theorem TopC.fnd {x : Str} {st : Stmt} {ps N : List Str} {f c : Addr} {fd : FuncData} {k : Nat} {sp : Pins → Sp} (T : TopC K mg x st ps f fd c) (S : FnScope N ps (defScope st)) (len : ∀ D vs H Q, sp D vs H Q L2.E0 → vs.length = ps.length)
    (body : ∀ (D : Pins) (B : Around) (outer : List Env) (s : Shared) (H : Hp) (vs : List V) (Q : VK), Room k (B.deeper (envOfC x (defScope st) s.heap.objs.size f (.ref c))) → Dep D outer s H → sp D vs H Q L2.E0 →
      ∃ t, PSs (cxOf L2.CX0 P w K mg base N x (defScope st) f (.ref c) B outer s H L2.E0).nox (defBody st) t ∧ t { nx := fun _ H' => Q .non H', rt := Q } (start N vs) H) : FnD P w K mg base (k + 1) f fd ps sp := by
  obtain ⟨oc, od, kV, doc, pm, an, ct, osl, rfl, lk, hcd⟩ := T.ex
  exact fnd_of lk hcd S len body
end
theorem extn_tk {H H' : Hp} (h : ExtN H H') : TK H H' := fun p xs e => h p _ e fun ps z => by cases z
theorem extn_same {H H' : Hp} (h : Same H H') : ExtN H H' := fun b o e _ => h b o e
theorem extn_lst {b : Addr} {H H' : Hp} {xs : List V} (h : ExtN H H') (e : H b = some (.lst xs)) : H' b = some (.lst xs) := h b _ e fun ps z => by cases z
theorem extn_dK {b : Addr} {H H' : Hp} {xs : List (Key × V)} (h : ExtN H H') (e : H b = some (.dK xs)) : H' b = some (.dK xs) := h b _ e fun ps z => by cases z
theorem extn_over {H H' : Hp} {W : Addr} {o : HO} (h : ExtN H H') (n : H W = none) : ExtN H (upd H' W o) := fun b u e m => by
  rw [upd_ne fun z => by rw [z, n] at e; cases e]
  exact h b u e m
theorem tabs_but {T : List (Addr × Str)} {H H' : Hp} {a : Addr} {o0 : HO} (t : Tabs T H) (e : H a = some o0) (n1 : ∀ ps, o0 ≠ .tbl ps) (n2 : ∀ c q, o0 ≠ CodeO c q) (k : ∀ b o, H b = some o → b ≠ a → H' b = some o) : Tabs T H' := fun p hp => by
  obtain ⟨ps, h1, h2, h3⟩ := t p hp
  refine ⟨ps, k _ _ h1 fun z => ?_, h2, fun pos cv hc => ?_⟩
  · rw [z, e] at h1
    exact n1 ps (Option.some.inj h1)
  · obtain ⟨c, e1, e2⟩ := h3 pos cv hc
    refine ⟨c, e1, k _ _ e2 fun z => ?_⟩
    rw [z, e] at e2
    exact n2 _ _ (Option.some.inj e2)
theorem tabs_lst {T : List (Addr × Str)} {H : Hp} {a : Addr} {xs : List V} {o : HO} (t : Tabs T H) (e : H a = some (.lst xs)) : Tabs T (upd H a o) := tabs_but t e (fun ps z => by cases z) (fun c q z => by cases z) fun b u h n => by rw [upd_ne n]; exact h
theorem DsAt.split {H : Hp} {ts rs : List D} : ∀ {us : List V}, DsAt H us (ts ++ rs) → DsAt H (us.take ts.length) ts ∧ DsAt H (us.drop ts.length) rs := by
  induction ts with
  | nil => intro us h; exact ⟨.nil, h⟩
  | cons t ts ih =>
    intro us h
    cases h with
    | cons h1 h2 =>
      obtain ⟨a, b⟩ := ih h2
      exact ⟨.cons h1 a, b⟩
section
variable {P : Program} {w : World} {K : Frag} {mg : Str → Option Value} {base : Heap}
def spNodeG (T : List (Addr × Str)) (pt : D → List D) (Ok : D → Prop) (H0 : Hp) (fo : D → D) : Sp := fun vs H Q _ => ∃ x u L us, vs = [x, .ref L] ∧ ExtN H0 H ∧ Tabs T H ∧ DAt H x u ∧ Ok u ∧ H L = some (.lst us) ∧ DsAt H us ((pt u).map fo) ∧ ∀ v' H', ExtN H H' → Tabs T H' → DAt H' v' (fo u) → Q v' H'
def spFIG (P : Program) (w : World) (K : Frag) (mg : Str → Option Value) (base : Heap) (m : Nat) (T : List (Addr × Str)) (pt nd : D → List D) (Dm : D → Prop) (fp : Addr) (D' : Pins) : Sp := fun vs H Q _ => ∃ v d f3 fo EX Ok H0, vs = [v, .ref fp, .ref f3] ∧ ExtN H0 H ∧ Tabs T H ∧ DAt H v d ∧ Dm d ∧ d.size ≤ 1000000 ∧ (∀ u ∈ nd d, Ok u) ∧
  Callee P w K mg base m f3 (spNodeG T pt Ok H0 fo) D' EX ∧ ExOk EX H ∧ (∀ p ∈ EX, ∀ ps, p.2 ≠ HO.tbl ps) ∧ ∀ v' H', ExtN H H' → Tabs T H' → DAt H' v' (fo d) → Q v' H'
theorem ok_fromInsideG {T : List (Addr × Str)} {pt nd : D → List D} {Dm : D → Prop} (Tr : Tree pt nd Dm) {m : Nat} (hm3 : 3 ≤ m) {f fn fp c : Addr} {fd fdn fdp : FuncData} {xp : Str} {sp_ : Stmt} {pp : List Str} (TI : TopC K mg "from_inside" sFromInside pFromInside f fd c) (TN : Top K mg "nodes_in" sNodesIn pNodesIn fn fdn) (TP : Top K mg xp sp_ pp fp fdp) (GP : FnOk P w K mg base CX0 2 fp fdp pp (spPartsG pt Dm)) (B : Blt mg) :
    FnD P w K mg base (m + 1) f fd pFromInside (spFIG P w K mg base m T pt nd Dm fp) := by
  have GN : FnOk P w K mg base CX0 3 fn fdn pNodesIn (spNodesG nd Dm fp) := ok_nodesG Tr TN TP GP
  refine TI.fnd scFromInside (fun DD vs H Q h => ?_) (fun DD A outer s H vs Q hr dp h => ?_)
  · obtain ⟨_, _, _, _, _, _, _, rfl, _⟩ := h
    rfl
  · obtain ⟨v, t, f3, fo, EX, Ok, H0, rfl, he0, hT0, ht, hk, hz, hok, C, hx, nx, k⟩ := h
    have hr3 : Room 3 _ := hr.mono hm3
    have hr2 : Room 2 _ := hr3.mono (by decide)
    refine ⟨_, (pss_cons (ps_set (i := 3) scFromInside.nd rfl (Or.inl rfl) (pe_lst pa_nil))
      (pss_cons (ps_for PassesOwn.never rfl (pi_reversed (by rfl) B.reversed (pa_cons (pe_call GN hr3 rfl TN.g TN.F.kp TN.b .nil pass0 (pa_cons (pv 0) (pa_cons (pv 1) pa_nil))) pa_nil)) (pg_name (i := 4) scFromInside.nd rfl (Or.inl rfl))
        (pss_cons (ps_set (i := 5) scFromInside.nd rfl (Or.inl rfl) (pe_op op_sub (pe_callB call_len_seq (by rfl) B.len PySem.boot_len (pa_cons (pv 3) pa_nil)) (pe_callB call_len_seq (by rfl) B.len PySem.boot_len (pa_cons (pe_callL (i := 1) (f := fp) GP hr2 rfl (.inl rfl) TP.F.kp TP.b .nil pass0 (pa_cons (pv 4) pa_nil)) pa_nil))))
      (pss_cons (ps_set (i := 6) scFromInside.nd rfl (Or.inl rfl) (pe_slice sl_list (pv 3) (po_some (pv 5)) po_none))
      (pss_cons (KT.ps_delTail (pv 3) (po_some (pv 5)))
      (pss_one (ps_expr (pe_bm PySem.F.plainAttrs_list PySem.F.slot_list_append PySem.F.type_list_append mt_append (pv 3) (pa_cons (pe_callee (i := 2) C hr rfl dp rfl (.inl rfl) (pa_cons (pv 4) (pa_cons (pv 6) pa_nil))) pa_nil))))))))
      (pss_one (ps_ret (pe_ix ix_list (pv 3) pe_int (fun _ _ => rfl)))))), ?_⟩
    refine ⟨by show 0 ≤ sizeLine; exact Nat.zero_le _, fun W hW => ?_⟩
    have sW : Same H (upd H W (.lst [])) := same_upd hW
    refine ⟨v, rfl, .ref fp, rfl, v, t, rfl, ht.mono (TK.of_same sW), hk, by omega, fun L ns H1 s1 nL eL hT => ?_⟩
    have nWL : W ≠ L := ne_of_none upd_same nL
    have nHL : H L = none := by
      rw [upd_ne nWL.symm] at nL
      exact nL
    have ln := hT.length
    obtain ⟨hnl, hna⟩ := Tr.len t.size t (Nat.le_refl _) hk
    refine ⟨L, ns, rfl, SqL.of eL, ?_⟩
    refine for_it walk_rev (fun i σ H' => ∃ (v4 v5 v6 : Option V) (us : List V) (S : List D), σ = [some v, some (.ref fp), some (.ref f3), some (.ref W), v4, v5, v6] ∧ H' W = some (.lst us) ∧ ExtN H H' ∧ Tabs T H' ∧ H' L = some (.lst ns) ∧ DsAt H' ns (nd t) ∧ DsAt H' us (S.map fo) ∧ S.length ≤ i ∧ RunG pt S ((nd t).reverse.drop i) [t])
      ⟨none, none, none, [], [], rfl, s1 _ _ upd_same, extn_same (sW.trans s1), hT0.ext (sW.trans s1), eL, hT, .nil, Nat.le_refl _, by have q := Tr.run t.size t (Nat.le_refl _) hk [] [] [t] .nil; simpa using q⟩ ?_ ?_ ?_
    · rintro i σ H' hi ⟨_, _, _, _, _, _, _, _, _, e, _⟩
      exact SqL.of e
    · rintro i x σ H' H2 hi ⟨v4, v5, v6, us, S, rfl, eW, hs, hT2, eL', hN, hU, hSi, hR⟩ ⟨rfl, hx'⟩
      obtain ⟨u, hu, hxu⟩ := hN.at_ hx'
      have mu := List.mem_of_getElem? hu
      have lN := hN.length
      have hd : (nd t).reverse.drop i = u :: (nd t).reverse.drop (i + 1) := by
        have q : (nd t).reverse[i]? = some u := by
          rw [List.getElem?_reverse (by omega), ← lN]
          exact hu
        obtain ⟨h1, h2⟩ := List.getElem?_eq_some_iff.mp q
        rw [List.drop_eq_getElem_cons h1, h2]
      rw [hd] at hR
      obtain ⟨S0, rfl, hR'⟩ := hR.inv
      have lU := hU.length
      rw [List.map_append] at hU
      obtain ⟨hU1, hU2⟩ := hU.split
      rw [List.length_map] at hU1 hU2
      rw [List.length_map, List.length_append] at lU
      rw [List.length_append] at hSi
      refine ⟨_, rfl, W, us, rfl, .inl (SqL.of eW), rfl, x, rfl, x, u, rfl, hxu, hna u mu, fun p zs hp hzs => ⟨p, zs, rfl, .inr (SqT.of upd_same), _, _, rfl, rfl, ?_⟩⟩
      have lz := hzs.length
      have e5 : (us.length : Int) - (zs.length : Int) = (S0.length : Int) := by omega
      dsimp only
      rw [e5]
      have np : W ≠ p := ne_of_none eW hp
      have npL : L ≠ p := ne_of_none eL' hp
      have eW1 : upd H2 p (.tup zs) W = some (.lst us) := by rw [upd_ne np]; exact eW
      refine ⟨_, rfl, _, rfl, _, rfl, W, us, rfl, SqL.of eW1, fun q hq => ?_⟩
      rw [cutV_from]
      have nq : W ≠ q := ne_of_none eW1 hq
      have npq : L ≠ q := ne_of_none (show upd H2 p (.tup zs) L = some (.lst ns) by rw [upd_ne npL]; exact eL') hq
      have eW2 : upd (upd H2 p (.tup zs)) q (.lst (us.drop S0.length)) W = some (.lst us) := by rw [upd_ne nq]; exact eW1
      refine ⟨_, rfl, _, rfl, _, rfl, W, us, S0.length, rfl, rfl, eW2, by omega, ?_⟩
      have s23 : Same H2 (upd (upd H2 p (.tup zs)) q (.lst (us.drop S0.length))) := (same_upd hp).trans (same_upd hq)
      have tk : TK H2 (upd (upd (upd H2 p (.tup zs)) q (.lst (us.drop S0.length))) W (.lst (us.take S0.length))) := ((TK.upd_new hp).trans (TK.upd_new hq)).trans (TK.upd_lst eW2)
      have s2 : ExtN H (upd (upd (upd H2 p (.tup zs)) q (.lst (us.drop S0.length))) W (.lst (us.take S0.length))) := extn_over (hs.trans (extn_same s23)) hW
      have T3 : Tabs T (upd (upd (upd H2 p (.tup zs)) q (.lst (us.drop S0.length))) W (.lst (us.take S0.length))) := tabs_lst (hT2.ext s23) eW2
      have nqW : q ≠ W := nq.symm
      have hxx : ExOk EX (upd (upd (upd H2 p (.tup zs)) q (.lst (us.drop S0.length))) W (.lst (us.take S0.length))) := fun r hr => s2 _ _ (hx r hr) (nx r hr)
      refine ⟨_, rfl, .inl ⟨rfl, _, SqL.of upd_same⟩, rfl, hxx, x, rfl, _, rfl, hxx, x, u, q, us.drop S0.length, rfl, he0.trans s2, T3, hxu.mono tk, hok u mu, by rw [upd_ne nqW, upd_same], hU2.mono tk, fun v' H6 s6 T6 hv' => ?_⟩
      have eW6 := extn_lst s6 (upd_same (H := upd (upd H2 p (.tup zs)) q (.lst (us.drop S0.length))) (a := W) (o := .lst (us.take S0.length)))
      refine ⟨W, us.take S0.length, v', rfl, rfl, eW6, by rw [List.length_take, sizeLine_eq]; omega, ?_⟩
      have tk6 : TK H2 H6 := tk.trans (extn_tk s6)
      have tk7 : TK H6 (upd H6 W (.lst (us.take S0.length ++ [v']))) := TK.upd_lst eW6
      refine ⟨_, _, _, us.take S0.length ++ [v'], S0 ++ [u], rfl, upd_same, extn_over (s2.trans s6) hW, tabs_lst T6 eW6, ?_, hN.mono (tk6.trans tk7), ?_, ?_, hR'⟩
      · rw [upd_ne nWL.symm]
        refine extn_lst s6 ?_
        rw [upd_ne nWL.symm, upd_ne npq, upd_ne npL]
        exact eL'
      · rw [List.map_append]
        exact (hU1.mono (tk6.trans tk7)).append (.cons (hv'.mono tk7) .nil)
      · rw [List.length_append, List.length_singleton]
        omega
    · rintro σ H' ⟨v4, v5, v6, us, S, rfl, eW, hs, hT2, eL', hN, hU, hSi, hR⟩
      rw [ln, ← List.length_reverse, List.drop_length] at hR
      obtain rfl := hR.end_
      cases hU with
      | @cons x _ xs _ hx hU =>
        exact ⟨_, rfl, W, _, _, _, rfl, rfl, SqL.of eW, atI_nat (j := 0) rfl, k _ _ hs hT2 hx⟩
end
end U6

namespace U6
open PySem PySem.Spec PyProof.Rows L2 NdefX LamX KT
open PySem.W (Frag)
/-! ### types as trees -/
def Ty.nds : Ty → List Ty
  | .w z => [.w z]
  | .n g a b => .n g a b :: (b.nds ++ a.nds)
def kp : D → List D
  | .t [_, a, b] => [a, b]
  | _ => []
def kn (u : D) : List D := match u.ty with
  | some t => t.nds.map Ty.d
  | none => [u]
def IsTy (u : D) : Prop := ∃ t : Ty, t.wok ∧ u = t.d
theorem kn_d {t : Ty} (h : t.wok) : kn t.d = t.nds.map Ty.d := by unfold kn; rw [t.ty_d h]
theorem treeK : Tree kp kn IsTy := by
  refine ⟨?_, ?_, ?_⟩
  · rintro u ⟨t, h, rfl⟩
    cases t with
    | w z => rw [kn_d h]; rfl
    | n g a b =>
      rw [kn_d h]
      show _ = _ :: (kn b.d ++ (kn a.d ++ []))
      rw [kn_d h.1, kn_d h.2]
      simp [Ty.nds]
  · rintro u ⟨t, h, rfl⟩
    cases t with
    | w z => exact ⟨by simp [Ty.d, kp, sizeAll, D.size], by simp [Ty.d, kp]⟩
    | n g a b => exact ⟨by simp only [Ty.d, kp, sizeAll, D.size]; omega, by simp [Ty.d, kp]⟩
  · rintro u ⟨t, h, rfl⟩ p hp
    cases t with
    | w z => simp [Ty.d, kp] at hp
    | n g a b =>
      simp only [Ty.d, kp, List.mem_cons, List.not_mem_nil, or_false] at hp
      rcases hp with rfl | rfl
      · exact ⟨a, h.1, rfl⟩
      · exact ⟨b, h.2, rfl⟩
def Ty.fold (f : Str → D) (g : Sg → D → D → D) : Ty → D
  | .w z => f z
  | .n s a b => g s (a.fold f g) (b.fold f g)
def foK (f : Str → D) (g : Sg → D → D → D) (u : D) : D := match u.ty with
  | some t => t.fold f g
  | none => u
theorem foK_d {f : Str → D} {g : Sg → D → D → D} {t : Ty} (h : t.wok) : foK f g t.d = t.fold f g := by unfold foK; rw [t.ty_d h]
/-- the tables of code objects -/
structure Tb1 (base : Heap) (mg : Str → Option Value) (T : List (Addr × Str)) (c PX : Addr) (q : Str) : Prop where
  b : TabB base mg c PX
  m : (PX, q) ∈ T
  u : ∀ p ∈ T, p.1 = PX → p.2 = q
abbrev toN (T : List (Addr × Str)) : List NTab := T.map fun p => (p.1, fun _ _ => p.2)
theorem tabsN_of {T : List (Addr × Str)} {H : Hp} (h : Tabs T H) : TabsN (toN T) H := fun q hq => by
  obtain ⟨p, hp, rfl⟩ := List.mem_map.mp hq
  exact TabN.of (h p hp)
theorem tabs_of {T : List (Addr × Str)} {H : Hp} (h : TabsN (toN T) H) : Tabs T H := fun p hp => TabN.to (h (p.1, fun _ _ => p.2) (List.mem_map.mpr ⟨p, hp, rfl⟩))
theorem Tb1.mN {base : Heap} {mg : Str → Option Value} {T : List (Addr × Str)} {c PX : Addr} {q : Str} (t : Tb1 base mg T c PX q) : (PX, fun (_ _ : Nat) => q) ∈ toN T := List.mem_map.mpr ⟨_, t.m, rfl⟩
theorem Tb1.uN {base : Heap} {mg : Str → Option Value} {T : List (Addr × Str)} {c PX : Addr} {q : Str} (t : Tb1 base mg T c PX q) : ∀ p ∈ toN T, p.1 = PX → p.2 = fun _ _ => q := by
  intro r hr e
  obtain ⟨p, hp, rfl⟩ := List.mem_map.mp hr
  show (fun _ _ => p.2) = _
  rw [t.u p hp e]
abbrev sAtPart : Stmt := (L2.defBody sFolded).getD 0 (.Pass ⟨0, 0, 0, 0⟩)
abbrev nAtPart : List Str := ["part", "came", "at_plain", "at_signed"]
theorem scAtPart : NScope nAtPart ["part", "came"] ["at_plain", "at_signed"] (C8.fnScope sAtPart) := nscope_by (by decide +kernel)
section
variable {P : Program} {w : World} {K : Frag} {mg : Str → Option Value} {base : Heap} {T : List (Addr × Str)} {cF PF : Addr}
theorem ok_partsOf {f : Addr} {fd : FuncData} (T : Top K mg "_parts_of" sPartsOf pPartsOf f fd) (B : Blt mg) : FnOk P w K mg base CX0 2 f fd pPartsOf (spPartsG kp IsTy) := by
  refine T.F.ok scPartsOf (fun vs H Q E h => ?_) (fun cdv A outer s H vs Q E hr h => ?_)
  · obtain ⟨_, _, rfl, _⟩ := h
    rfl
  · obtain ⟨v, u, rfl, hu, ⟨t, hw, rfl⟩, k⟩ := h
    refine ⟨_, pss_one (ps_ret (pe_ifExp (pt_val (pe_callB call_isi (by rfl) B.isi (by decide +kernel) (pa_cons (pv 0) (pa_cons (pe_bltn (v := .ty "tuple") (by rfl) B.tuple (by decide +kernel) rfl) pa_nil)))) (pe_slice sl_tup (pv 0) (po_some pe_int) po_none) (pe_tup pa_nil))), ?_⟩
    have hv := hu.ty (t.ty_d hw)
    cases hv with
    | @w z hz =>
      exact ⟨_, rfl, _, _, _, _, false, rfl, .ty "tuple", .base (.str z), kit_ty (by decide +kernel), false, rfl, iteF ⟨Nat.zero_le _, fun p hp => k p [] hp .nil⟩⟩
    | @n p g x y a b e h1 h2 =>
      exact ⟨_, rfl, _, _, _, _, true, rfl, .ty "tuple", .base (.tup e), kit_ty (by decide +kernel), true, rfl, iteT ⟨_, rfl, _, rfl, p, _, rfl, SqT.of e, cut_not, fun q hq => k q [x, y] hq (.cons h1.d (.cons h2.d .nil))⟩⟩
def spPl (T : List (Addr × Str)) (W : Str → Prop) (H0 : Hp) (f : Str → D) : Sp := fun vs H Q _ => ∃ z, vs = [.str z] ∧ ExtN H0 H ∧ Tabs T H ∧ W z ∧ IsW z ∧ ∀ v' H', ExtN H H' → Tabs T H' → DAt H' v' (f z) → Q v' H'
def spSg (T : List (Addr × Str)) (g : Sg → D → D → D) : Sp := fun vs H Q _ => ∃ s x y a b, vs = [.str (Sg.str s), x, y] ∧ Tabs T H ∧ DAt H x a ∧ DAt H y b ∧ ∀ v' H', ExtN H H' → Tabs T H' → DAt H' v' (g s a b) → Q v' H'
def OkW (W : Str → Prop) (u : D) : Prop := IsTy u ∧ ∀ z, u = .s z → W z
theorem ok_atPart {qual : Str} {cl : List (Str × Addr)} {c' f1 f2 f3 : Addr} {DD : Pins} {EX : Exts} {pl : Str → D} {sg : Sg → D → D → D} {W : Str → Prop} {H0 : Hp} (C1 : Callee P w K mg base 2 f1 (spPl T W H0 pl) DD EX) (C2 : Callee P w K mg base 2 f2 (spSg T sg) DD EX)
    (hf : (f3, FnO f3 (NF.of sAtPart "at_part" qual cl c')) ∈ EX) (hc : (c', CodeO c' qual) ∈ EX) (C : CellD DD cl ["at_plain", "at_signed"] [some (.ref f1), some (.ref f2)]) :
    Callee P w K mg base 3 f3 (spNodeG T kp (OkW W) H0 (foK pl sg)) DD EX := by
  refine callee_def (N := nAtPart) (ps := ["part", "came"]) (F := NF.of sAtPart "at_part" qual cl c') scAtPart (fun doc pm ctv us hl => match us, hl with | [_, _], _ => rfl) (fun vs H Q h => ?_) hf hc C (fun A outer s H vs Q hr dp hx h => ?_)
  · obtain ⟨_, _, _, _, rfl, _⟩ := h
    rfl
  · obtain ⟨x, u, L, us, rfl, he0, hT, hxu, ⟨⟨t, hw, rfl⟩, hW⟩, eL, hU, k⟩ := h
    rw [foK_d hw] at k
    refine ⟨_, pss_one (ps_ret (pe_ifExp (pt_truth (pv 1) (by intro _; rfl))
      (pe_callee (i := 3) C2 hr rfl dp rfl (.inr (.inr rfl)) (pa_cons (pe_ix ix_tup (pv 0) pe_int (fun _ _ => rfl)) (pa_cons (pe_ix ix_list (pv 1) pe_int (fun _ _ => rfl)) (pa_cons (pe_ix ix_list (pv 1) pe_int (fun _ _ => rfl)) pa_nil))))
      (pe_callee (i := 2) C1 hr rfl dp rfl (.inr (.inr rfl)) (pa_cons (pv 0) pa_nil)))), ?_⟩
    refine ⟨_, rfl, _, .inl ⟨_, SqL.of eL, rfl⟩, ?_⟩
    have hv := hxu.ty (t.ty_d hw)
    cases hv with
    | @w z hz =>
      cases hU
      exact iteF ⟨rfl, hx, _, rfl, hx, z, rfl, he0, hT, hW z rfl, hz, k⟩
    | @n p g x1 x2 a b e k1 k2 =>
      simp only [Ty.d, kp, List.map_cons, List.map_nil] at hU
      rw [foK_d hw.1, foK_d hw.2] at hU
      cases hU with
      | @cons r1 _ _ _ q1 hU =>
        cases hU with
        | @cons r2 _ _ _ q2 hU =>
          cases hU
          exact iteT ⟨rfl, hx, _, rfl, p, _, _, _, rfl, rfl, SqT.of e, atI_nat (j := 0) rfl, _, rfl, L, _, _, _, rfl, rfl, SqL.of eL, atI_nat (j := 0) rfl, _, rfl, L, _, _, _, rfl, rfl, SqL.of eL, atI_nat (j := 1) rfl, hx, g, r1, r2, _, _, rfl, hT, q1, q2, k⟩
def spFolded (P : Program) (w : World) (K : Frag) (mg : Str → Option Value) (base : Heap) (T : List (Addr × Str)) (DD : Pins) : Sp := fun vs H Q _ => ∃ v t f1 f2 pl sg EX W H0, vs = [v, .ref f1, .ref f2] ∧ ExtN H0 H ∧ (∀ z ∈ t.words, W z) ∧ TyAt H v t ∧ t.d.size ≤ 1000000 ∧
  Callee P w K mg base 2 f1 (spPl T W H0 pl) DD EX ∧ Callee P w K mg base 2 f2 (spSg T sg) DD EX ∧ ExOk EX H ∧ (∀ p ∈ EX, ∀ ps, p.2 ≠ HO.tbl ps) ∧ Tabs T H ∧
  ∀ v' H', ExtN H H' → Tabs T H' → DAt H' v' (t.fold pl sg) → Q v' H'
theorem hAtB : ndefB (L2.defScope sFolded) (C8.fnScope sAtPart) ["at_plain", "at_signed"] = true := by decide +kernel
theorem nds_words {z : Str} : ∀ {t : Ty}, D.s z ∈ t.nds.map Ty.d → z ∈ t.words
  | .w y, h => by
    simp only [Ty.nds, List.map_cons, List.map_nil, List.mem_cons, List.not_mem_nil, or_false, Ty.d, D.s.injEq] at h
    simp [Ty.words, h]
  | .n g a b, h => by
    simp only [Ty.nds, List.map_cons, List.map_append, List.mem_cons, List.mem_append, Ty.d, reduceCtorEq, false_or] at h
    simp only [Ty.words, List.mem_append]
    exact h.symm.imp nds_words nds_words
theorem nds_wok : ∀ {t : Ty}, t.wok → ∀ u ∈ t.nds.map Ty.d, IsTy u
  | .w y, h, u, hu => by
    simp only [Ty.nds, List.map_cons, List.map_nil, List.mem_cons, List.not_mem_nil, or_false] at hu
    exact ⟨_, h, hu⟩
  | .n g a b, h, u, hu => by
    simp only [Ty.nds, List.map_cons, List.map_append, List.mem_cons, List.mem_append] at hu
    rcases hu with hu | hu | hu
    · exact ⟨_, h, hu⟩
    · exact nds_wok h.2 u hu
    · exact nds_wok h.1 u hu
theorem ok_folded {f fi fn fp cI : Addr} {fd fdi fdn fdp : FuncData} (TF : TopC K mg "folded" sFolded pFolded f fd cF) (TI : TopC K mg "from_inside" sFromInside pFromInside fi fdi cI) (TN : Top K mg "nodes_in" sNodesIn pNodesIn fn fdn)
    (TP : Top K mg "_parts_of" sPartsOf pPartsOf fp fdp) (B : Blt mg) (tb : Tb1 base mg T cF PF "folded.<locals>.at_part") : FnD P w K mg base 5 f fd pFolded (spFolded P w K mg base T) := by
  have GI : FnD P w K mg base 4 fi fdi pFromInside (spFIG P w K mg base 3 T kp kn IsTy fp) := ok_fromInsideG treeK (Nat.le_refl 3) TI TN TP (ok_partsOf TP B) B
  refine TF.fnd scFolded (fun DD vs H Q h => ?_) (fun DD A outer s H vs Q hr dp h => ?_)
  · obtain ⟨_, _, _, _, _, _, _, _, _, rfl, _⟩ := h
    rfl
  · obtain ⟨v, t, f1, f2, pl, sg, EX, W, H0, rfl, he0, hW, ht, hz, C1, C2, hx, nx, hT, k⟩ := h
    have hw := ht.wok
    refine ⟨_, pss_cons (ps_ndefMS (st := sAtPart) (T := toN T) (nm := fun _ _ => "folded.<locals>.at_part") (i := 3) rfl tb.b rfl tb.mN (show (_ : Str) = (("folded" : Str) ++ (".<locals>." : Str)) ++ ("at_part" : Str) by decide +kernel) tb.uN (ndef_free hAtB) rfl rfl rfl scFolded.nd rfl (.inl rfl) (.inl rfl))
      (pss_one (ps_ret (pe_dcall (D0 := DD) (cl := _) (fr := ["at_plain", "at_signed"]) (js := [1, 2]) GI hr rfl (fun _ => rfl) dp (fun ok => Caps.made ok (ndef_free hAtB) (ndef_fr hAtB) rfl) rfl TI.T.g TI.T.F.kp TI.T.b
        (pa_cons (pv 0) (pa_cons (pe_glob (v := .ref fp) rfl TP.g rfl) (pa_cons (pv 3) pa_nil)))))), ?_⟩
    refine ⟨tabsN_of hT, fun f3 c' H1 eN nn T1 f0 e1 e2 => ?_⟩
    have hx1 : ExOk EX H1 := fun p hp => eN p.1 p.2 (hx p hp) (nx p hp)
    refine ⟨v, rfl, _, rfl, fun D1 CD => ?_⟩
    refine ⟨v, t.d, f3, foK pl sg, EX ++ [(f3, FnO f3 (NF.of sAtPart "at_part" (("folded" : Str) ++ (".<locals>." : Str) ++ ("at_part" : Str)) _ c')), (c', CodeO c' (("folded" : Str) ++ (".<locals>." : Str) ++ ("at_part" : Str)))], OkW W, H0, rfl, he0.trans eN, tabs_of T1, (ht.mono (extn_tk eN)).d, ⟨t, hw, rfl⟩, hz, ?_, ok_atPart (C1.mono (Nat.le_refl _) (fun p hp => List.mem_append.mpr (.inl hp)) fun p hp => List.mem_append.mpr (.inl hp)) (C2.mono (Nat.le_refl _) (fun p hp => List.mem_append.mpr (.inl hp)) fun p hp => List.mem_append.mpr (.inl hp))
      (List.mem_append.mpr (.inr List.mem_cons_self)) (List.mem_append.mpr (.inr (List.mem_cons_of_mem _ List.mem_cons_self))) (CD.mono fun p hp => List.mem_append.mpr (.inr hp)), ?_, ?_, fun v' H' e' T' hv' => k v' H' (eN.trans e') T' (by rw [foK_d hw] at hv'; exact hv')⟩
    · intro u hu
      rw [kn_d hw] at hu
      exact ⟨nds_wok hw u hu, fun z e => hW z (nds_words (e ▸ hu))⟩
    · intro p hp
      rcases List.mem_append.mp hp with hp | hp
      · exact hx1 p hp
      · rcases List.mem_cons.mp hp with rfl | hp
        · exact e1
        · rcases List.mem_cons.mp hp with rfl | hp
          · exact e2
          · exact absurd hp (by simp)
    · intro p hp ps
      rcases List.mem_append.mp hp with hp | hp
      · exact nx p hp ps
      · rcases List.mem_cons.mp hp with rfl | hp
        · exact fun z => by
            unfold FnO at z
            cases z
        · rcases List.mem_cons.mp hp with rfl | hp
          · exact codeO_ne ps
          · exact absurd hp (by simp)
end
end U6

namespace U6
open PySem PySem.Spec PyProof.Rows L2 NdefX LamX KT
open PySem.W (Frag)
def Sg.turn : Sg → Sg
  | .ov => .un
  | .th => .th
  | .un => .ov
def Ty.turned : Ty → Ty
  | .w z => .w z
  | .n g a b => .n g.turn b.turned a.turned
theorem tx_sg (g : Sg) : TxtOk g.str := by cases g <;> exact ⟨by decide +kernel, by decide +kernel⟩
theorem Ty.turned_fold (t : Ty) : t.fold .s (fun g a b => .t [.s g.turn.str, b, a]) = t.turned.d := by
  induction t with
  | w _ => rfl
  | n g a b i j => simp only [Ty.fold, Ty.turned, Ty.d, i, j]
theorem Ty.turned_wok {t : Ty} (h : t.wok) : t.turned.wok := by
  induction t with
  | w _ => exact h
  | n g a b i j => exact ⟨j h.2, i h.1⟩
def Ty.put (m : Str → Ty) : Ty → Ty
  | .w z => m z
  | .n g a b => .n g (a.put m) (b.put m)
theorem Ty.put_fold (m : Str → Ty) (t : Ty) : t.fold (fun z => (m z).d) (fun g a b => .t [.s g.str, a, b]) = (t.put m).d := by
  induction t with
  | w _ => rfl
  | n g a b i j => simp only [Ty.fold, Ty.put, Ty.d, i, j]
theorem Ty.put_wok {m : Str → Ty} {t : Ty} (h : ∀ z ∈ t.words, (m z).wok) : (t.put m).wok := by
  induction t with
  | w z => exact h z (by simp [Ty.words])
  | n g a b i j => exact ⟨i fun z hz => h z (by simp only [Ty.words, List.mem_append]; exact .inl hz), j fun z hz => h z (by simp only [Ty.words, List.mem_append]; exact .inr hz)⟩
def opSg : Sg → D → D → D
  | .ov, a, b => .t [.s "over made", .t [.s "over used", .i 0, b, a]]
  | .un, a, b => .t [.s "under made", .t [.s "under used", .i 0, a, b]]
  | .th, a, b => .t [.s "then used", .i 0, .t [.s "then made", a, b]]
theorem opD_fold (t : Ty) : t.fold (fun z => .t [.s "is", .s z]) opSg = opD t := by
  induction t with
  | w _ => rfl
  | n g a b i j => cases g <;> simp only [Ty.fold, opSg, opD, i, j]
def callArgs : Expr → List Expr
  | .Call _ es _ _ => es
  | _ => []
def retE : Stmt → List Expr
  | .Return (some e) _ => [e]
  | _ => []
abbrev scPutLam : Scope := (((L2.defBody sPutIn).flatMap retE).flatMap callArgs).foldr (fun e r => match e with | .Lambda _ _ sc _ => sc | _ => r) ⟨.function, [], false, false, []⟩
/-- what folded stands upon -/
structure TFs (K : Frag) (mg : Str → Option Value) (base : Heap) (T : List (Addr × Str)) (ff fi fn fp cI cF PF : Addr) (fdf fdi fdn fdp : FuncData) : Prop where
  TF : TopC K mg "folded" sFolded pFolded ff fdf cF
  TI : TopC K mg "from_inside" sFromInside pFromInside fi fdi cI
  TN : Top K mg "nodes_in" sNodesIn pNodesIn fn fdn
  TP : Top K mg "_parts_of" sPartsOf pPartsOf fp fdp
  tb : Tb1 base mg T cF PF "folded.<locals>.at_part"
section
variable {P : Program} {w : World} {K : Frag} {mg : Str → Option Value} {base : Heap} {T : List (Addr × Str)} {cF cT cP cK PF PT PP PK : Addr}
theorem ok_turnedSign {f : Addr} {fd : FuncData} (TT : Top K mg "_turned_sign" sTurnedSign pTurnedSign f fd) : FnOk P w K mg base L2.CX0 1 f fd pTurnedSign (spSg T fun s a b => .t [.s s.turn.str, b, a]) := by
  refine TT.F.ok scTurnedSign (fun vs H Q E h => ?_) (fun cdv A outer s H vs Q E hr h => ?_)
  · obtain ⟨_, _, _, _, _, rfl, _⟩ := h
    rfl
  · obtain ⟨g, x, y, a, b, rfl, hT, h1, h2, k⟩ := h
    refine ⟨_, (pss_cons (ps_if (pt_cmpR op_eq (pv 0) pe_str (nomark _)) (pss_one (ps_ret (pe_tup (pa_cons pe_str (pa_cons (pv 2) (pa_cons (pv 1) pa_nil)))))) pss_nil)
      (pss_cons (ps_if (pt_cmpR op_eq (pv 0) pe_str (nomark _)) (pss_one (ps_ret (pe_tup (pa_cons pe_str (pa_cons (pv 2) (pa_cons (pv 1) pa_nil)))))) pss_nil)
      (pss_one (ps_ret (pe_tup (pa_cons pe_str (pa_cons (pv 2) (pa_cons (pv 1) pa_nil)))))))), ?_⟩
    have fin : ∀ (g' : Sg) (p : Addr), g.turn = g' → H p = none → Q (.ref p) (upd H p (.tup [.str g'.str, y, x])) := fun g' p e hp => by
      subst e
      exact k _ _ (extn_same (same_upd hp)) (hT.ext (same_upd hp)) (.t upd_same (.cons (.s (tx_sg _)) (.cons (h2.mono (TK.upd_new hp)) (.cons (h1.mono (TK.upd_new hp)) .nil))))
    have l3 : 3 ≤ sizeLine := by rw [sizeLine_eq]; omega
    cases g with
    | ov => exact ⟨_, rfl, rfl, true, congrArg V.bl (decide_eq_true rfl), iteT ⟨_, rfl, _, rfl, l3, fun p hp => fin .un p rfl hp⟩⟩
    | un => exact ⟨_, rfl, rfl, false, congrArg V.bl (decide_eq_false (by decide)), iteF ⟨_, rfl, rfl, true, congrArg V.bl (decide_eq_true rfl), iteT ⟨_, rfl, _, rfl, l3, fun p hp => fin .ov p rfl hp⟩⟩⟩
    | th => exact ⟨_, rfl, rfl, false, congrArg V.bl (decide_eq_false (by decide)), iteF ⟨_, rfl, rfl, false, congrArg V.bl (decide_eq_false (by decide)), iteF ⟨_, rfl, _, rfl, l3, fun p hp => fin .th p rfl hp⟩⟩⟩
def spTurned (T : List (Addr × Str)) : Sp := fun vs H Q _ => ∃ v t, vs = [v] ∧ TyAt H v t ∧ t.d.dep ≤ 60 ∧ t.d.size ≤ 1000000 ∧ Tabs T H ∧ ∀ v' H', ExtN H H' → Tabs T H' → DAt H' v' t.turned.d → Q v' H'
theorem ok_turned {f ff fi fn fp cI fc fts : Addr} {fd fdf fdi fdn fdp fdc fdts : FuncData} (TD : TopC K mg "turned" sTurned pTurned f fd cT) (tbT : Tb1 base mg T cT PT "turned.<locals>.<lambda>") (U : TFs K mg base T ff fi fn fp cI cF PF fdf fdi fdn fdp) (B : Blt mg)
    (TC : Top K mg "check_kind" sCheckKind pCheckKind fc fdc) (GC : FnOk P w K mg base CX0 3 fc fdc pCheckKind spCheckKindT) (TT : Top K mg "_turned_sign" sTurnedSign pTurnedSign fts fdts) : FnOk P w K mg base L2.CX0 6 f fd pTurned (spTurned T) := by
  have GF : FnD P w K mg base 5 ff fdf pFolded (spFolded P w K mg base T) := ok_folded U.TF U.TI U.TN U.TP B U.tb
  have GT : FnOk P w K mg base L2.CX0 1 fts fdts pTurnedSign (spSg T fun s a b => .t [.s s.turn.str, b, a]) := ok_turnedSign TT
  have TF := U.TF
  refine FnD.ok (TD.fnd scTurned (sp := fun _ => spTurned T) (fun DD vs H Q h => ?_) (fun DD A outer s H vs Q hr dp h => ?_)) fun vs H Q E h => h
  · obtain ⟨_, _, rfl, _⟩ := h
    rfl
  · obtain ⟨v, t, rfl, ht, hd, hz, hT, k⟩ := h
    have hr3 : Room 3 _ := hr.mono (by decide)
    have eq : (("turned" : Str) ++ (".<locals>." : Str)) ++ ("<lambda>" : Str) = ("turned.<locals>.<lambda>" : Str) := by decide +kernel
    refine ⟨_, (pss_cons (ps_expr (pe_call GC hr3 rfl TC.g TC.F.kp TC.b .nil pass0 (pa_cons (pv 0) pa_nil)))
      (pss_one (ps_ret (pe_dcall (D0 := DD) (cl := []) (fr := []) (js := []) GF hr rfl (fun _ => rfl) dp (fun ok => Caps.nil) rfl TF.T.g TF.T.F.kp TF.T.b
        (pa_cons (pv 0) (pa_cons (pe_lamV (T := T) tbT.b rfl (by show (PT, (("turned" : Str) ++ (".<locals>." : Str)) ++ ("<lambda>" : Str)) ∈ _; rw [eq]; exact tbT.m) (fun p hp e => (tbT.u p hp e).trans eq.symm) rfl (ndef_free (sc := L2.defScope sTurned) (fr := []) (by decide +kernel))) (pa_cons (pe_glob (v := .ref fts) rfl TT.g rfl) pa_nil))))))), ?_⟩
    refine ⟨v, rfl, v, t, rfl, ht, hd, hz, fun H1 s1 => ⟨v, rfl, hT.ext s1, fun f1 c' H2 eN nn T2 f0 e1 e2 => fun D1 CD => ?_⟩⟩
    obtain ⟨EX, C1, x1, n1⟩ := lam_callee (P := P) (w := w) (K := K) (mg := mg) (base := base) (k := 1) (sp := spPl T (fun _ => True) H2 D.s) (D := DD ++ D1) (N := ["word"]) (ps := ["word"]) (fr := []) (ws := []) e1 e2 (nscope_by (by dsimp only [lamF]; decide +kernel)) (fun pm ctv us hl => match us, hl with | [_], _ => rfl)
      (fun vs H Q h => by obtain ⟨_, rfl, _⟩ := h; rfl) CellD.nil (fun A outer s H vs Q hr d h => by
        obtain ⟨z, rfl, _, hT, _, hz, k⟩ := h
        exact ⟨_, pv 0, _, rfl, k _ H (ExtN.refl H) hT (.s (isW_ok hz))⟩)
    have C2 := (callee_top GT TT.F TT.b).mono (D' := DD ++ D1) (EX' := EX) (show 1 ≤ 2 by decide) (fun p hp => absurd hp (by simp)) (fun p hp => absurd hp (by simp))
    have tk := (TK.of_same s1).trans (extn_tk eN)
    refine ⟨v, t, f1, fts, D.s, _, EX, _, H2, rfl, ExtN.refl _, fun _ _ => trivial, ht.mono tk, hz, C1, C2, x1, n1, T2, fun v' H' e' T' hv' => k v' H' (((extn_same s1).trans eN).trans e') T' ?_⟩
    rw [← Ty.turned_fold]
    exact hv'
def spPutIn (T : List (Addr × Str)) : Sp := fun vs H Q _ => ∃ (v : V) (t : Ty) (d : Addr) (kvs : List (Key × V)) (m : Str → Ty), vs = [v, .ref d] ∧ TyAt H v t ∧ t.d.size ≤ 1000000 ∧ Tabs T H ∧ H d = some (.dK kvs) ∧
  (∀ z ∈ t.words, ∃ x, valV kvs (Sum.inr z) = some x ∧ TyAt H x (m z)) ∧ ∀ v' H', ExtN H H' → Tabs T H' → DAt H' v' (t.put m).d → Q v' H'
theorem hPutB : ndefB (L2.defScope sPutIn) scPutLam ["sent"] = true := by decide +kernel
theorem ok_putIn {f ff fi fn fp cI : Addr} {fd fdf fdi fdn fdp : FuncData} (TD : TopC K mg "put_in" sPutIn pPutIn f fd cP) (tbP : Tb1 base mg T cP PP "put_in.<locals>.<lambda>") (U : TFs K mg base T ff fi fn fp cI cF PF fdf fdi fdn fdp) (B : Blt mg) : FnOk P w K mg base L2.CX0 6 f fd pPutIn (spPutIn T) := by
  have GF : FnD P w K mg base 5 ff fdf pFolded (spFolded P w K mg base T) := ok_folded U.TF U.TI U.TN U.TP B U.tb
  have TF := U.TF
  refine FnD.ok (TD.fnd scPutIn (sp := fun _ => spPutIn T) (fun DD vs H Q h => ?_) (fun DD A outer s H vs Q hr dp h => ?_)) fun vs H Q E h => h
  · obtain ⟨_, _, _, _, _, rfl, _⟩ := h
    rfl
  · obtain ⟨v, t, d, kvs, m, rfl, ht, hz, hT, hd, hm, k⟩ := h
    have eq : (("put_in" : Str) ++ (".<locals>." : Str)) ++ ("<lambda>" : Str) = ("put_in.<locals>.<lambda>" : Str) := by decide +kernel
    refine ⟨_, (pss_one (ps_ret (pe_dcall (D0 := DD) (cl := _) (fr := ["sent"]) (js := [1]) GF hr rfl (fun _ => rfl) dp (fun ok => Caps.made (scope := scPutLam) ok (ndef_free hPutB) (ndef_fr hPutB) rfl) rfl TF.T.g TF.T.F.kp TF.T.b
        (pa_cons (pv 0) (pa_cons (pe_lamV (T := T) tbP.b rfl (by show (PP, (("put_in" : Str) ++ (".<locals>." : Str)) ++ ("<lambda>" : Str)) ∈ _; rw [eq]; exact tbP.m) (fun p hp e => (tbP.u p hp e).trans eq.symm) rfl (ndef_free (sc := L2.defScope sPutIn) (fr := ["sent"]) (by decide +kernel)))
          (pa_cons (pe_lamV (T := T) tbP.b rfl (by show (PP, (("put_in" : Str) ++ (".<locals>." : Str)) ++ ("<lambda>" : Str)) ∈ _; rw [eq]; exact tbP.m) (fun p hp e => (tbP.u p hp e).trans eq.symm) rfl (ndef_free (sc := L2.defScope sPutIn) (fr := []) (by decide +kernel))) pa_nil)))))), ?_⟩
    refine ⟨v, rfl, hT, fun f1 c1 H2 eN nn T2 f0 e1 e2 => ⟨T2, fun f2 c2 H3 eN3 nn3 T3' f03 e13 e23 => fun D1 CD => ?_⟩⟩
    obtain ⟨EX2, C2, x2, n2⟩ := lam_callee (P := P) (w := w) (K := K) (mg := mg) (base := base) (k := 1) (sp := spSg T fun s a b => .t [.s s.str, a, b]) (D := DD ++ D1) (N := ["sign", "first", "second"]) (ps := ["sign", "first", "second"]) (fr := []) (ws := []) e13 e23 (nscope_by (by dsimp only [lamF]; decide +kernel)) (fun pm ctv us hl => match us, hl with | [_, _, _], _ => rfl)
      (fun vs H Q h => by obtain ⟨_, _, _, _, _, rfl, _⟩ := h; rfl) CellD.nil (fun A outer s H vs Q hr d h => by
        obtain ⟨g, x, y, a, b, rfl, hT, h1, h2, k⟩ := h
        refine ⟨_, pe_tup (pa_cons (pv 0) (pa_cons (pv 1) (pa_cons (pv 2) pa_nil))), ?_⟩
        exact ⟨_, rfl, _, rfl, _, rfl, by show 3 ≤ sizeLine; rw [sizeLine_eq]; omega, fun p hp => k _ _ (extn_same (same_upd hp)) (hT.ext (same_upd hp)) (.t upd_same (.cons (.s (tx_sg _)) (.cons (h1.mono (TK.upd_new hp)) (.cons (h2.mono (TK.upd_new hp)) .nil))))⟩)
    have e1' := eN3 _ _ e1 (fun ps z => by unfold LamO at z; cases z)
    have e2' := eN3 _ _ e2 codeO_ne
    have eA : ExtN H H3 := eN.trans eN3
    obtain ⟨EX1, C1, x1, n1⟩ := lam_callee (P := P) (w := w) (K := K) (mg := mg) (base := base) (k := 1) (sp := spPl T (fun z => z ∈ t.words) H (fun z => (m z).d)) (D := DD ++ D1) (N := ["word", "sent"]) (ps := ["word"]) (fr := ["sent"]) (ws := [some (.ref d)]) e1' e2' (nscope_by (by dsimp only [lamF]; decide +kernel)) (fun pm ctv us hl => match us, hl with | [_], _ => rfl)
      (fun vs H Q h => by obtain ⟨_, rfl, _⟩ := h; rfl) (CD.mono fun p hp => List.mem_append.mpr (.inr hp)) (fun A outer s H' vs Q hr dd h => by
        obtain ⟨z, rfl, he0, hT, hW, hz, k⟩ := h
        obtain ⟨x, hx, hxt⟩ := hm z hW
        refine ⟨_, pe_dget (hu_of hr) (pv 1) (pv 0) (fun _ _ => rfl), ?_⟩
        have g1 := DGet.k (k := Sum.inr z) (he0 _ _ hd fun ps z => by cases z)
        rw [hx] at g1
        exact ⟨_, rfl, _, rfl, d, x, rfl, g1, k x H' (ExtN.refl H') hT (hxt.mono (extn_tk he0)).d⟩)
    have C1' := C1.mono (Nat.le_refl 2) (fun p hp => hp) (EX' := EX1 ++ EX2) fun p hp => List.mem_append.mpr (.inl hp)
    have C2' := C2.mono (Nat.le_refl 2) (fun p hp => hp) (EX' := EX1 ++ EX2) fun p hp => List.mem_append.mpr (.inr hp)
    refine ⟨v, t, f1, f2, (fun z => (m z).d), _, EX1 ++ EX2, _, H, rfl, eA, fun z hz => hz, ht.mono (extn_tk eA), hz, C1', C2', fun p hp => (List.mem_append.mp hp).elim (x1 p) (x2 p), fun p hp => (List.mem_append.mp hp).elim (n1 p) (n2 p), T3', fun v' H' e' T' hv' => k v' H' (eA.trans e') T' ?_⟩
    rw [← Ty.put_fold]
    exact hv'
theorem ok_plainStep {f : Addr} {fd : FuncData} (TT : Top K mg "_plain_step" sPlainStep pPlainStep f fd) : FnOk P w K mg base L2.CX0 1 f fd pPlainStep (spSg T opSg) := by
  refine TT.F.ok scPlainStep (fun vs H Q E h => ?_) (fun cdv A outer s H vs Q E hr h => ?_)
  · obtain ⟨_, _, _, _, _, rfl, _⟩ := h
    rfl
  · obtain ⟨g, x, y, a, b, rfl, hT, h1, h2, k⟩ := h
    refine ⟨_, (pss_cons (ps_if (pt_cmpR op_eq (pv 0) pe_str (nomark _)) (pss_one (ps_ret (pe_tup (pa_cons pe_str (pa_cons (pe_tup (pa_cons pe_str (pa_cons pe_int (pa_cons (pv 2) (pa_cons (pv 1) pa_nil))))) pa_nil))))) pss_nil)
      (pss_cons (ps_if (pt_cmpR op_eq (pv 0) pe_str (nomark _)) (pss_one (ps_ret (pe_tup (pa_cons pe_str (pa_cons (pe_tup (pa_cons pe_str (pa_cons pe_int (pa_cons (pv 1) (pa_cons (pv 2) pa_nil))))) pa_nil))))) pss_nil)
      (pss_one (ps_ret (pe_tup (pa_cons pe_str (pa_cons pe_int (pa_cons (pe_tup (pa_cons pe_str (pa_cons (pv 1) (pa_cons (pv 2) pa_nil)))) pa_nil)))))))), ?_⟩
    have fin : ∀ v' H', Same H H' → DAt H' v' (opSg g a b) → Q v' H' := fun v' H' s' => k v' H' (extn_same s') (hT.ext s')
    have X : ∀ {σ : L2.St}, σ[1]? = some (some x) → Yd (tVar 1) σ H a := fun e => yd_var e h1
    have Y : ∀ {σ : L2.St}, σ[2]? = some (some y) → Yd (tVar 2) σ H b := fun e => yd_var e h2
    cases g with
    | ov =>
      refine ⟨_, rfl, rfl, true, congrArg V.bl (decide_eq_true rfl), iteT ?_⟩
      exact yd_ret (yt2 (txtIs _ (by simp)) (yd_tup (yda4 (yd_str (txtIs _ (by simp))) yd_int (Y rfl) (X rfl)) (by simp))) (Same.refl H) fin
    | un =>
      refine ⟨_, rfl, rfl, false, congrArg V.bl (decide_eq_false (by decide)), iteF ⟨_, rfl, rfl, true, congrArg V.bl (decide_eq_true rfl), iteT ?_⟩⟩
      exact yd_ret (yt2 (txtIs _ (by simp)) (yd_tup (yda4 (yd_str (txtIs _ (by simp))) yd_int (X rfl) (Y rfl)) (by simp))) (Same.refl H) fin
    | th =>
      refine ⟨_, rfl, rfl, false, congrArg V.bl (decide_eq_false (by decide)), iteF ⟨_, rfl, rfl, false, congrArg V.bl (decide_eq_false (by decide)), iteF ?_⟩⟩
      exact yd_ret (yt3 (txtIs _ (by simp)) yd_int (yt3 (txtIs _ (by simp)) (X rfl) (Y rfl))) (Same.refl H) fin
end
end U6

namespace U6
open PySem PySem.Spec PyProof.Rows L2 NdefX LamX KT
open PySem.W (Frag)
/-! ### turned about, as mathematics -/
theorem Sg.turn_turn (g : Sg) : g.turn.turn = g := by cases g <;> rfl
theorem Ty.turned_turned (t : Ty) : t.turned.turned = t := by
  induction t with
  | w _ => rfl
  | n g a b i j => simp only [Ty.turned, i, j, Sg.turn_turn]
/-- a row turned about -/
def R (l : List Ty) : List Ty := (l.map Ty.turned).reverse
theorem R_app (l m : List Ty) : R (l ++ m) = R m ++ R l := by simp [R]
theorem R_cons (t : Ty) (l : List Ty) : R (t :: l) = R l ++ [t.turned] := by simp [R]
theorem R_nil : R [] = [] := rfl
theorem R_len (l : List Ty) : (R l).length = l.length := by simp [R]
theorem R_R (l : List Ty) : R (R l) = l := by
  induction l with
  | nil => rfl
  | cons t l ih => rw [R_cons, R_app, ih, R_cons, R_nil, Ty.turned_turned]; rfl
def Rt (r : Told) : Told := (R r.1, r.2.turned)
def oth (nm : Str) : Str := if nm = "over made" then "under made" else if nm = "under made" then "over made" else if nm = "over used" then "under used" else if nm = "under used" then "over used" else nm
def D.int : D → Int
  | .i p => p
  | _ => 0
def wOf : Option Told → Int
  | some r => (r.1.length : Int)
  | none => 0
def abOf (l m : List D) (o : List (Option Told)) : D := match l, m, o with
  | [.s nm, x], [_, x'], _ => if nm = "is" then .t [.s nm, match x.ty with | some t => t.turned.d | none => x] else .t [.s (oth nm), x']
  | [.s nm, x, _], [_, x', y'], [_, _, r] => if nm = "then used" then .t [.s nm, .i (wOf r - 2 - x.int), y'] else .t [.s nm, y', x']
  | [.s nm, p, _, _], [_, _, x', y'], [_, _, _, r] => .t [.s (oth nm), .i (wOf r - 1 - p.int), x', y']
  | _, _, _ => .o
mutual
def D.ab : D → D
  | .s z => .s z
  | .i n => .i n
  | .o => .o
  | .t l => abOf l (abAll l) (tlAll l)
def abAll : List D → List D
  | [] => []
  | d :: r => d.ab :: abAll r
end
theorem ab_is {x : D} {k : Ty} (h : x.ty = some k) : (D.t [.s "is", x]).ab = .t [.s "is", k.turned.d] := by simp [D.ab, abAll, tlAll, abOf, h]
theorem ab_om {x : D} : (D.t [.s "over made", x]).ab = .t [.s "under made", x.ab] := by simp [D.ab, abAll, tlAll, abOf, oth]
theorem ab_um {x : D} : (D.t [.s "under made", x]).ab = .t [.s "over made", x.ab] := by simp [D.ab, abAll, tlAll, abOf, oth]
theorem ab_tm {x y : D} : (D.t [.s "then made", x, y]).ab = .t [.s "then made", y.ab, x.ab] := by simp [D.ab, abAll, tlAll, abOf]
theorem ab_tu {p : Int} {y : D} : (D.t [.s "then used", .i p, y]).ab = .t [.s "then used", .i (wOf y.tl - 2 - p), y.ab] := by simp [D.ab, abAll, tlAll, abOf, D.int]
theorem ab_us {nm : Str} {p : Int} {x y : D} : (D.t [.s nm, .i p, x, y]).ab = .t [.s (oth nm), .i (wOf y.tl - 1 - p), x.ab, y.ab] := by simp [D.ab, abAll, tlAll, abOf, D.int]
theorem usedAt_of {nm : Str} {A B : List Ty} {k g : Ty} {x : Told} (h : nm ≠ "over used" → nm ≠ "under used" → k = x.2) : usedAt nm (A.length : Int) x (A ++ k :: B, g) = some (A ++ midOf nm k x ++ B, g) := by
  unfold usedAt midOf
  have e : (A ++ k :: B)[((A.length : Int)).toNat]? = some k := by simp
  rw [if_pos (by omega)]
  have e1 : (A ++ k :: B).take A.length = A := List.take_left
  have e2 : (A ++ k :: B).drop (A.length + 1) = B := by
    rw [show A ++ k :: B = (A ++ [k]) ++ B by simp, show A.length + 1 = (A ++ [k]).length by simp]
    exact List.drop_left
  have e' : (A ++ k :: B)[A.length]? = some k := by simp
  simp only [Int.toNat_natCast, e', e1, e2]
  by_cases c1 : nm = "over used"
  · rw [if_pos c1, if_pos c1]
    simp
  · rw [if_neg c1, if_neg c1]
    by_cases c2 : nm = "under used"
    · rw [if_pos c2, if_pos c2]
      simp
    · rw [if_neg c2, if_neg c2, if_pos (h c1 c2)]
theorem thenU_of {A B : List Ty} {a b g : Ty} : thenU (A.length : Int) (A ++ a :: b :: B, g) = some (A ++ .n .th a b :: B, g) := by
  unfold thenU
  have e1 : (A ++ a :: b :: B)[((A.length : Int)).toNat]? = some a := by simp
  have e2 : (A ++ a :: b :: B)[((A.length : Int)).toNat + 1]? = some b := by simp
  rw [if_pos (by omega)]
  simp only [e1, e2, Int.toNat_natCast]
  simp
theorem madeO_of {A : List Ty} {a z g : Ty} : madeO (a :: (A ++ [z]), g) = some (a :: A, .n .ov g z) := by
  unfold madeO
  simp only
  rw [if_neg (by simp)]
  congr 2
  · rw [← List.cons_append, List.dropLast_concat]
  · rw [← List.cons_append]
    simp only [List.getLastD_eq_getLast?, List.getLast?_append, List.getLast?_singleton, Option.or_some, Option.getD_some]
    try rfl
theorem mid_turn {nm : Str} {k : Ty} {x : Told} (h : nm = "over used" ∨ nm = "under used" ∨ nm = "cut") : midOf (oth nm) k.turned (Rt x) = R (midOf nm k x) := by
  rcases h with rfl | rfl | rfl
  · show R x.1 ++ [Ty.n .un x.2.turned k.turned] = _
    simp [midOf, R, Ty.turned, Sg.turn]
  · show [Ty.n .ov k.turned x.2.turned] ++ R x.1 = _
    simp [midOf, R, Ty.turned, Sg.turn]
  · simp [midOf, oth, Rt]
theorem oth_oth {nm : Str} (h : nm = "over used" ∨ nm = "under used" ∨ nm = "cut") : oth (oth nm) = nm ∧ placed (oth nm) = true := by
  rcases h with rfl | rfl | rfl <;> exact ⟨by decide +kernel, by decide +kernel⟩
/-- what is turned about tells what is told, turned about; and turned about once more it is itself -/
theorem ab_tl : ∀ (n : Nat) (u : D) (r : Told), u.size ≤ n → u.tl = some r → u.ab.tl = some (Rt r) ∧ u.ab.ab = u := by
  intro n
  induction n with
  | zero => intro u r h; have := u.size_pos; omega
  | succ n ih =>
    intro u r hz h
    cases tl_inv h with
    | @is x k hk =>
      have wk := D.ty_wok hk
      have e : k.turned.d.ty = some k.turned := Ty.ty_d _ (Ty.turned_wok wk)
      rw [ab_is hk]
      refine ⟨tl_of (.is e), ?_⟩
      rw [ab_is e, Ty.turned_turned, D.ty_d hk]
    | @om x rx _ h1 h2 =>
      simp only [D.size, sizeAll] at hz
      obtain ⟨i1, i2⟩ := ih x rx (by omega) h1
      rw [ab_om, ab_um, i2]
      refine ⟨tl_of (.um i1 ?_), rfl⟩
      obtain ⟨A, a, z, e1, rfl⟩ := madeO_inv h2
      obtain ⟨row, g⟩ := rx
      obtain rfl : row = _ := e1
      unfold Rt
      rw [R_cons, R_app, R_cons, R_nil, R_cons]
      have : ∃ b B, R A ++ [a.turned] = b :: B := by
        cases R A with
        | nil => exact ⟨_, _, rfl⟩
        | cons b B => exact ⟨_, _, rfl⟩
      obtain ⟨b, B, e⟩ := this
      show madeU (z.turned :: (R A ++ [a.turned]), _) = some (R A ++ [a.turned], _)
      rw [e]
      rfl
    | @um x rx _ h1 h2 =>
      simp only [D.size, sizeAll] at hz
      obtain ⟨i1, i2⟩ := ih x rx (by omega) h1
      rw [ab_um, ab_om, i2]
      refine ⟨tl_of (.om i1 ?_), rfl⟩
      obtain ⟨a, b, B, e1, rfl⟩ := madeU_inv h2
      obtain ⟨row, g⟩ := rx
      obtain rfl : row = _ := e1
      unfold Rt
      rw [R_cons, R_cons]
      have : ∃ c C, R B ++ [b.turned] = c :: C := by
        cases R B with
        | nil => exact ⟨_, _, rfl⟩
        | cons b B => exact ⟨_, _, rfl⟩
      obtain ⟨c, C, e⟩ := this
      rw [e]
      exact madeO_of
    | @tm x y rx ry h1 h2 =>
      simp only [D.size, sizeAll] at hz
      obtain ⟨i1, i2⟩ := ih x rx (by omega) h1
      obtain ⟨j1, j2⟩ := ih y ry (by omega) h2
      rw [ab_tm, ab_tm, i2, j2]
      refine ⟨?_, rfl⟩
      rw [tl_of (.tm j1 i1)]
      simp [thenM, Rt, R_app, Ty.turned, Sg.turn]
    | @tu p y ry _ h1 h2 =>
      simp only [D.size, sizeAll] at hz
      obtain ⟨j1, j2⟩ := ih y ry (by omega) h1
      obtain ⟨A, a, b, B, e1, e2, rfl⟩ := thenU_inv h2
      obtain ⟨row, g⟩ := ry
      obtain rfl : row = _ := e1
      have ew : wOf y.tl - 2 - p = ((R B).length : Int) := by
        rw [h1, R_len, e2]
        simp only [wOf, List.length_append, List.length_cons]
        omega
      have ew' : wOf y.ab.tl - 2 - ((R B).length : Int) = p := by
        rw [j1, e2, R_len]
        simp only [wOf, Rt, R_len, List.length_append, List.length_cons]
        omega
      rw [ab_tu, ew, ab_tu, ew', j2]
      refine ⟨tl_of (.tu j1 ?_), rfl⟩
      unfold Rt
      rw [R_app, R_cons, R_cons, R_app, R_cons]
      have q : R B ++ [b.turned] ++ [a.turned] ++ R A = R B ++ b.turned :: a.turned :: R A := by simp
      rw [q, thenU_of]
      simp [Ty.turned, Sg.turn]
    | @us nm p x y rx ry _ c h1 h2 h3 =>
      simp only [D.size, sizeAll] at hz
      obtain ⟨i1, i2⟩ := ih x rx (by omega) h1
      obtain ⟨j1, j2⟩ := ih y ry (by omega) h2
      have cc := placed_cases c
      obtain ⟨o1, o2⟩ := oth_oth cc
      obtain ⟨A, k, B, e1, e2, rfl, hk⟩ := usedAt_inv h3
      obtain ⟨row, g⟩ := ry
      obtain rfl : row = _ := e1
      have ew : wOf y.tl - 1 - p = ((R B).length : Int) := by
        rw [h2, R_len, e2]
        simp only [wOf, List.length_append, List.length_cons]
        omega
      have ew' : wOf y.ab.tl - 1 - ((R B).length : Int) = p := by
        rw [j1, e2, R_len]
        simp only [wOf, Rt, R_len, List.length_append, List.length_cons]
        omega
      rw [ab_us, ew, ab_us, ew', i2, j2, o1]
      refine ⟨tl_of (.us o2 i1 j1 ?_), rfl⟩
      show usedAt (oth nm) _ (Rt rx) (R (A ++ k :: B), g.turned) = _
      have q : R (A ++ k :: B) = R B ++ k.turned :: R A := by rw [R_app, R_cons]; simp
      rw [q, usedAt_of, mid_turn cc]
      · unfold Rt
        rw [R_app, R_app, List.append_assoc]
      · intro n1 n2
        rcases cc with e | e | e
        · rw [e] at n2; exact absurd rfl n2
        · rw [e] at n1; exact absurd rfl n1
        · rw [hk (by rw [e]; decide) (by rw [e]; decide)]; rfl
end U6

namespace U6
open PySem PySem.Spec PyProof.Rows L2 NdefX LamX KT
open PySem.W (Frag)
theorem ndAll_eq : ∀ l : List D, ndAll D.nodes l = nodesAll l
  | [] => rfl
  | d :: r => by simp only [ndAll, nodesAll, ndAll_eq r]
theorem treeD : Tree D.parts D.nodes (fun u => u.allK = true) :=
  ⟨fun u h => by rw [(allK_fm h).1.nodes, ndAll_eq], fun u h => (allK_fm h).1.psize, fun u h => (allK_fm h).2⟩
/-- it turned about, and how many types its row has -/
def foT (u : D) : D := .t [u.ab, .i (wOf u.tl)]
/-- the other names -/
structure Gn6 (K : Frag) (w : World) (mg : Str → Option Value) : Prop where
  ex : ∃ dt, mg "_TURNED_NAMES" = some (.ref dt) ∧ ∀ nm : Str, (nm = "over made" ∨ nm = "under made" ∨ nm = "over used" ∨ nm = "under used" ∨ nm = "then used" ∨ nm = "cut") → KDct K w dt nm (.str (oth nm))
section
variable {P : Program} {w : World} {K : Frag} {mg : Str → Option Value} {base : Heap} {T : List (Addr × Str)}
def spTP : Sp := fun vs H Q _ => ∃ v L us nm p rest r, vs = [v, .ref L] ∧ DAt H v (.t (.s nm :: .i p :: rest)) ∧ (D.t (.s nm :: .i p :: rest)).tl = some r ∧ ((nm = "then used" ∧ ∃ y, rest = [y]) ∨ (placed nm = true ∧ ∃ x y, rest = [x, y])) ∧ H L = some (.lst us) ∧ DsAt H us (rest.map foT) ∧ ∀ v' H', Same H H' → DAt H' v' (foT (.t (.s nm :: .i p :: rest))) → Q v' H'
theorem dAt_foT {H : Hp} {v : V} {u : D} (h : DAt H v (foT u)) : ∃ p x, v = .ref p ∧ H p = some (.tup [x, .int (wOf u.tl)]) ∧ DAt H x u.ab := by
  unfold foT at h
  cases h with
  | t e h =>
    cases h with
    | @cons x _ _ _ h1 h =>
      cases h with
      | cons h2 h =>
        cases h
        cases h2
        exact ⟨_, x, rfl, e, h1⟩
theorem tu_tl {p : Int} {y : D} {r : Told} (h : (D.t [.s "then used", .i p, y]).tl = some r) : ∃ ry, y.tl = some ry ∧ thenU p ry = some r := by
  have c1 : ("then used" : Str) ≠ "then made" := by decide
  cases tl_inv h with
  | tu h1 h2 => exact ⟨_, h1, h2⟩
theorem us_tl {nm : Str} {p : Int} {x y : D} {r : Told} (h : (D.t [.s nm, .i p, x, y]).tl = some r) : ∃ rx ry, x.tl = some rx ∧ y.tl = some ry ∧ usedAt nm p rx ry = some r := by
  cases tl_inv h with
  | us _ h1 h2 h3 => exact ⟨_, _, h1, h2, h3⟩
theorem ok_turnedPlaced {f : Addr} {fd : FuncData} (TT : Top K mg "_turned_placed" sTurnedPlaced pTurnedPlaced f fd) (G : Gn6 K w mg) : FnOk P w K mg base L2.CX0 1 f fd pTurnedPlaced spTP := by
  obtain ⟨dt, gt, hk⟩ := G.ex
  refine TT.F.ok scTurnedPlaced (fun vs H Q E h => ?_) (fun cdv A outer s H vs Q E hr h => ?_)
  · obtain ⟨_, _, _, _, _, _, _, rfl, _⟩ := h
    rfl
  · obtain ⟨v, L, us, nm, p, rest, r, rfl, hv, hr', hsh, eL, hU, k⟩ := h
    refine ⟨_, (pss_cons (ps_set (i := 2) scTurnedPlaced.nd rfl (Or.inl rfl) (pe_ix ix_tup (pv 0) pe_int (fun _ _ => rfl)))
      (pss_cons (ps_setLc (i := 3) (own := [("part", 7)]) (g := (gName 7)) (tt := tYes) rfl scTurnedPlaced.nd rfl rfl (by rfl) (pi_list (pv 1)) (blkOk_by (N := nTurnedPlaced) (sc := defScope sTurnedPlaced) (by decide +kernel)) (fun _ _ _ _ _ => pg_name (i := 7) scTurnedPlaced.nd rfl (Or.inl rfl)) (fun _ _ _ _ _ => pts_nil) (fun _ _ _ _ _ => (pe_ix (show IxR _ (rIxT K) from ix_tup) (pv 7) pe_int (fun _ _ => rfl))))
      (pss_cons (ps_set (i := 4) scTurnedPlaced.nd rfl (Or.inl rfl) (pe_ix ix_tup (pe_ix ix_list (pv 1) (pe_un un_neg pe_int) (fun _ _ => rfl)) pe_int (fun _ _ => rfl)))
      (pss_cons (ps_set (i := 5) scTurnedPlaced.nd rfl (Or.inl rfl) (pe_ifExp (pt_cmpR op_eq (pv 2) pe_str (nomark _)) pe_int pe_int))
      (pss_cons (ps_set (i := 6) scTurnedPlaced.nd rfl (Or.inl rfl) (pe_tup (pa_cons (pe_ix ix_kdict (pe_glob (v := .ref dt) rfl gt rfl) (pv 2) (fun _ _ => rfl)) (pa_cons (pe_op op_sub (pe_op op_sub (pv 4) (pv 5)) (pe_ix ix_tup (pv 0) pe_int (fun _ _ => rfl))) (StX.pa_star (pv 3) pa_nil)))))
      (pss_cons (ps_if (pt_cmpR op_eq (pv 2) pe_str (nomark _)) (pss_one (ps_ret (pe_tup (pa_cons (pv 6) (pa_cons (pe_op op_sub (pv 4) pe_int) pa_nil))))) pss_nil)
      (pss_cons (ps_if (pt_cmpR op_eq (pv 2) pe_str (nomark _)) (pss_one (ps_ret (pe_tup (pa_cons (pv 6) (pa_cons (pe_op op_sub (pe_op op_add (pe_ix ix_tup (pe_ix ix_list (pv 1) pe_int (fun _ _ => rfl)) pe_int (fun _ _ => rfl)) (pv 4)) pe_int) pa_nil))))) pss_nil)
      (pss_one (ps_ret (pe_tup (pa_cons (pv 6) (pa_cons (pe_op op_add (pe_ix ix_tup (pe_ix ix_list (pv 1) pe_int (fun _ _ => rfl)) pe_int (fun _ _ => rfl)) (pv 4)) pa_nil)))))))))))), ?_⟩
    cases hv with
    | @t pv vs _ ev hvs =>
    cases hvs with
    | cons h1 hvs =>
    cases hvs with
    | cons h2 hvs =>
    cases h1 with
    | s okn =>
    cases h2
    refine ⟨_, rfl, pv, _, _, _, rfl, rfl, SqT.of ev, atI_nat (j := 0) rfl, gN ?_⟩
    refine ⟨_, rfl, L, rfl, ⟨_, SqL.of eL⟩, fun W hW => ?_⟩
    refine lc_list (K := K) (xs := us) (fun i H' => Same H H' ∧ ∃ ys, H' W = some (.lst ys) ∧ DsAt H' ys ((rest.map D.ab).take i)) ⟨same_upd hW, [], upd_same, by rw [List.take_zero]; exact .nil⟩ (fun i H' _ q => SqL.of (q.1 _ _ eL)) ?_ ?_
    · rintro i x H' hx ⟨sI, ys, eW, hY⟩
      obtain ⟨d, hd, hxd⟩ := (hU.mono (TK.of_same sI)).at_ hx
      rw [List.getElem?_map] at hd
      obtain ⟨u, hu, rfl⟩ := Option.map_eq_some_iff.mp hd
      obtain ⟨q, z, rfl, eq, hz⟩ := dAt_foT hxd
      have ld := hU.length
      rw [List.length_map] at ld
      obtain ⟨hi, _⟩ := List.getElem?_eq_some_iff.mp hx
      have hr2 : rest.length ≤ 2 := by
        rcases hsh with ⟨_, y, rfl⟩ | ⟨_, x, y, rfl⟩ <;> simp
      have ly := hY.length
      rw [List.length_take, List.length_map] at ly
      refine ⟨rfl, _, rfl, q, _, _, _, rfl, rfl, SqT.of eq, atI_nat (j := 0) rfl, ys, eW, by rw [sizeLine_eq]; omega, same_over sI hW, ys ++ [z], upd_same, ?_⟩
      have tkw : TK H' (upd H' W (.lst (ys ++ [z]))) := TK.upd_lst eW
      rw [List.take_add_one, List.getElem?_map, hu]
      exact (hY.mono tkw).append (.cons (hz.mono tkw) .nil)
    · rintro H1 ⟨s1, ys, eW, hY⟩
      have lx := hU.length
      rw [List.length_map] at lx
      rw [lx, ← List.length_map (f := D.ab), List.take_length] at hY
      refine gN ?_
      have hU1 := hU.mono (TK.of_same s1)
      rcases hsh with ⟨rfl, y, rfl⟩ | ⟨hp, x, y, rfl⟩
      · obtain ⟨ry, h1, h2⟩ := tu_tl hr'
        have hk' := hk "then used" (by simp)
        rw [show oth "then used" = "then used" by decide +kernel] at hk'
        cases hU1 with
        | cons a1 hU1 =>
        cases hU1
        obtain ⟨q, z, rfl, eq, hz⟩ := dAt_foT a1
        refine ⟨_, rfl, _, rfl, L, _, _, _, rfl, rfl, SqL.of (s1 _ _ eL), atI_last rfl, q, _, _, _, rfl, rfl, SqT.of eq, atI_nat (j := 1) rfl, gN ?_⟩
        dsimp only
        refine ⟨_, rfl, rfl, true, congrArg V.bl (decide_eq_true rfl), iteT (gN ?_)⟩
        dsimp only
        refine ⟨_, rfl, dt, _, _, rfl, rfl, hk', ?_⟩
        refine ⟨_, rfl, _, rfl, _, _, rfl, rfl, ?_⟩
        refine ⟨_, rfl, pv, _, _, _, rfl, rfl, SqT.of (s1 _ _ ev), atI_nat (j := 1) rfl, ?_⟩
        refine ⟨_, _, rfl, rfl, ?_⟩
        cases hY with
        | @cons y1 _ _ _ b1 hY =>
        cases hY
        refine ⟨_, rfl, W, [y1], rfl, .inr (SqL.of eW), by show 3 ≤ sizeLine; rw [sizeLine_eq]; omega, fun q6 n6 => gN ?_⟩
        dsimp only
        refine ⟨_, rfl, rfl, true, congrArg V.bl (decide_eq_true rfl), iteT ⟨_, rfl, _, rfl, _, _, rfl, rfl, by show 2 ≤ sizeLine; rw [sizeLine_eq]; omega, fun q7 n7 => ?_⟩⟩
        have sa := same_upd (o := .tup [.str "then used", .int (wOf y.tl - 2 - p), y1]) n6
        have sb := same_upd (o := .tup [.ref q6, .int (wOf y.tl - 1)]) n7
        have e6 : upd H1 q6 (.tup [.str "then used", .int (wOf y.tl - 2 - p), y1]) q6 = some (.tup [.str "then used", .int (wOf y.tl - 2 - p), y1]) := upd_same
        refine k _ _ (s1.trans (sa.trans sb)) ?_
        unfold foT
        have ew : wOf (D.t [.s "then used", .i p, y]).tl = wOf y.tl - 1 := by
          obtain ⟨A, a, b, B, e1, e2, rfl⟩ := thenU_inv h2
          rw [hr', h1]
          simp only [wOf, e1, List.length_append, List.length_cons]
          omega
        rw [ab_tu, ew]
        exact .t upd_same (.cons (.t (sb _ _ e6) (.cons (.s (txtIs _ (by simp))) (.cons (.i _) (.cons (b1.mono (TK.of_same (sa.trans sb))) .nil)))) (.cons (.i _) .nil))
      · obtain ⟨rx, ry, h1, h2, h3⟩ := us_tl hr'
        have cc := placed_cases hp
        have ne : nm ≠ "then used" := by rcases cc with rfl | rfl | rfl <;> decide
        cases hU1 with
        | cons a1 hU1 =>
        cases hU1 with
        | cons a2 hU1 =>
        cases hU1
        cases hY with
        | @cons y1 _ _ _ b1 hY =>
        cases hY with
        | @cons y2 _ _ _ b2 hY =>
        cases hY
        obtain ⟨q, z, rfl, eq, hz⟩ := dAt_foT a1
        obtain ⟨qq, zz, rfl, eqq, hzz⟩ := dAt_foT a2
        refine ⟨_, rfl, _, rfl, L, _, _, _, rfl, rfl, SqL.of (s1 _ _ eL), atI_last rfl, qq, _, _, _, rfl, rfl, SqT.of eqq, atI_nat (j := 1) rfl, gN ?_⟩
        dsimp only
        refine ⟨_, rfl, rfl, false, congrArg V.bl (decide_eq_false fun e => ne (by injection e)), iteF (gN ?_)⟩
        dsimp only
        refine ⟨_, rfl, dt, _, _, rfl, rfl, hk _ (by rcases cc with rfl | rfl | rfl <;> simp), ?_⟩
        refine ⟨_, rfl, _, rfl, _, _, rfl, rfl, ?_⟩
        refine ⟨_, rfl, pv, _, _, _, rfl, rfl, SqT.of (s1 _ _ ev), atI_nat (j := 1) rfl, ?_⟩
        refine ⟨_, _, rfl, rfl, ?_⟩
        refine ⟨_, rfl, W, [y1, y2], rfl, .inr (SqL.of eW), by show 4 ≤ sizeLine; rw [sizeLine_eq]; omega, fun q6 n6 => gN ?_⟩
        dsimp only
        have sa := same_upd (o := .tup [.str (oth nm), .int (wOf y.tl - 1 - p), y1, y2]) n6
        have e6 : upd H1 q6 (.tup [.str (oth nm), .int (wOf y.tl - 1 - p), y1, y2]) q6 = some (.tup [.str (oth nm), .int (wOf y.tl - 1 - p), y1, y2]) := upd_same
        have oko : TxtOk (oth nm) := by rcases cc with rfl | rfl | rfl <;> exact ⟨by decide +kernel, by decide +kernel⟩
        have fin : ∀ (q7 : Addr) (n : Int), (r.1.length : Int) = n → upd H1 q6 (.tup [.str (oth nm), .int (wOf y.tl - 1 - p), y1, y2]) q7 = none → Q (.ref q7) (upd (upd H1 q6 (.tup [.str (oth nm), .int (wOf y.tl - 1 - p), y1, y2])) q7 (.tup [.ref q6, .int n])) := by
          intro q7 n en n7
          have sb := same_upd (o := .tup [.ref q6, .int n]) n7
          refine k _ _ (s1.trans (sa.trans sb)) ?_
          unfold foT
          have tk := TK.of_same (sa.trans sb)
          rw [ab_us, hr']
          show DAt _ _ (.t [_, .i (r.1.length : Int)])
          rw [en]
          exact .t upd_same (.cons (.t (sb _ _ e6) (.cons (.s oko) (.cons (.i _) (.cons (b1.mono tk) (.cons (b2.mono tk) .nil))))) (.cons (.i _) .nil))
        obtain ⟨AA, kk, BB, e1, e2, er, hkk⟩ := usedAt_inv h3
        have elen : (r.1.length : Int) = AA.length + (midOf nm kk rx).length + BB.length := by
          rw [er]
          simp only [List.length_append]
          omega
        have ewy : wOf y.tl = (AA.length : Int) + BB.length + 1 := by
          rw [h2]
          simp only [wOf, e1, List.length_append, List.length_cons]
          omega
        have ewx : wOf x.tl = (rx.1.length : Int) := by rw [h1]; rfl
        have eL6 := sa _ _ (s1 _ _ eL)
        have eq6 := sa _ _ eq
        have l2 : 2 ≤ sizeLine := by rw [sizeLine_eq]; omega
        refine ⟨_, rfl, rfl, false, congrArg V.bl (decide_eq_false fun e => ne (by injection e)), iteF ?_⟩
        by_cases c : nm = "cut"
        · refine ⟨_, rfl, rfl, true, congrArg V.bl (decide_eq_true (by rw [c])), iteT ⟨_, rfl, _, rfl, L, _, _, _, rfl, rfl, SqL.of eL6, atI_nat (j := 0) rfl, q, _, _, _, rfl, rfl, SqT.of eq6, atI_nat (j := 1) rfl, _, rfl, _, _, rfl, rfl, _, _, rfl, rfl, l2, fun q7 n7 => fin q7 _ ?_ n7⟩⟩
          rw [elen, ewy, ewx, c]
          simp [midOf]
          try omega
        · refine ⟨_, rfl, rfl, false, congrArg V.bl (decide_eq_false fun e => c (by injection e)), iteF ⟨_, rfl, _, rfl, L, _, _, _, rfl, rfl, SqL.of eL6, atI_nat (j := 0) rfl, q, _, _, _, rfl, rfl, SqT.of eq6, atI_nat (j := 1) rfl, _, rfl, _, _, rfl, rfl, l2, fun q7 n7 => fin q7 _ ?_ n7⟩⟩
          rw [elen, ewy, ewx]
          rcases cc with rfl | rfl | rfl
          · simp [midOf]; omega
          · simp [midOf]; omega
          · exact absurd rfl c
end
end U6

namespace U6
open PySem PySem.Spec PyProof.Rows L2 NdefX LamX KT
open PySem.W (Frag)
def OkD (u : D) : Prop := u.tl.isSome = true ∧ u.dep ≤ 60 ∧ u.size ≤ 40000
section
variable {P : Program} {w : World} {K : Frag} {mg : Str → Option Value} {base : Heap} {T : List (Addr × Str)}
theorem ok_turnedKnot {H0 : Hp} {f fu fp : Addr} {fd fdu fdp : FuncData} (TK0 : Top K mg "_turned_knot" sTurnedKnot pTurnedKnot f fd) (TU : Top K mg "turned" sTurned pTurned fu fdu) (GU : FnOk P w K mg base CX0 6 fu fdu pTurned (spTurned T)) (TP : Top K mg "_turned_placed" sTurnedPlaced pTurnedPlaced fp fdp) (G : Gn6 K w mg) : FnOk P w K mg base L2.CX0 7 f fd pTurnedKnot (spNodeG T D.parts OkD H0 foT) := by
  have GP : FnOk P w K mg base L2.CX0 1 fp fdp pTurnedPlaced spTP := ok_turnedPlaced TP G
  obtain ⟨dt, gt, hk⟩ := G.ex
  refine TK0.F.ok scTurnedKnot (fun vs H Q E h => ?_) (fun cdv A outer s H vs Q E hr h => ?_)
  · obtain ⟨_, _, _, _, rfl, _⟩ := h
    rfl
  · obtain ⟨v, u, L, us, rfl, he0, hT, hv, ⟨hsome, hdep, hsize⟩, eL, hU, k⟩ := h
    have hr1 : Room 1 _ := hr.mono (by decide)
    refine ⟨_, (pss_cons (ps_set (i := 2) scTurnedKnot.nd rfl (Or.inl rfl) (pe_ix ix_tup (pv 0) pe_int (fun _ _ => rfl)))
      (pss_cons (ps_if (pt_cmpR op_eq (pv 2) pe_str (nomark _)) (pss_one (ps_ret (pe_tup (pa_cons (pe_tup (pa_cons pe_str (pa_cons (pe_call GU hr rfl TU.g TU.F.kp TU.b .nil pass0 (pa_cons (pe_ix ix_tup (pv 0) pe_int (fun _ _ => rfl)) pa_nil)) pa_nil))) (pa_cons pe_int pa_nil))))) pss_nil)
      (pss_cons (ps_if (pt_cmpR op_eq (pv 2) pe_str (nomark _)) (pss_cons (ps_asg (pv 1) (pg_lst (by rfl) (pgs_cons (pg_tup (by rfl) (pgs_cons (pg_name (i := 3) scTurnedKnot.nd rfl (Or.inl rfl)) (pgs_cons (pg_name (i := 4) scTurnedKnot.nd rfl (Or.inl rfl)) pgs_nil))) (pgs_cons (pg_tup (by rfl) (pgs_cons (pg_name (i := 5) scTurnedKnot.nd rfl (Or.inl rfl)) (pgs_cons (pg_name (i := 6) scTurnedKnot.nd rfl (Or.inl rfl)) pgs_nil))) pgs_nil))))
      (pss_one (ps_ret (pe_tup (pa_cons (pe_tup (pa_cons pe_str (pa_cons (pv 5) (pa_cons (pv 3) pa_nil)))) (pa_cons (pe_op op_add (pv 4) (pv 6)) pa_nil)))))) pss_nil)
      (pss_cons (ps_if (pt_cmpR op_in_seq (pv 2) (pe_tup (pa_cons pe_str (pa_cons pe_str pa_nil))) (by rfl)) (pss_cons (ps_asg (pe_ix ix_list (pv 1) pe_int (fun _ _ => rfl)) (pg_tup (by rfl) (pgs_cons (pg_name (i := 7) scTurnedKnot.nd rfl (Or.inl rfl)) (pgs_cons (pg_name (i := 4) scTurnedKnot.nd rfl (Or.inl rfl)) pgs_nil))))
      (pss_one (ps_ret (pe_tup (pa_cons (pe_tup (pa_cons (pe_ix ix_kdict (pe_glob (v := .ref dt) rfl gt rfl) (pv 2) (fun _ _ => rfl)) (pa_cons (pv 7) pa_nil))) (pa_cons (pe_op op_sub (pv 4) pe_int) pa_nil)))))) pss_nil)
      (pss_one (ps_ret (pe_call GP hr1 rfl TP.g TP.F.kp TP.b .nil pass0 (pa_cons (pv 0) (pa_cons (pv 1) pa_nil))))))))), ?_⟩
    obtain ⟨r, hr'⟩ := Option.isSome_iff_exists.mp hsome
    have l2 : 2 ≤ sizeLine := by rw [sizeLine_eq]; omega
    have l3 : 3 ≤ sizeLine := by rw [sizeLine_eq]; omega
    have kS : ∀ v' H', Same H H' → DAt H' v' (foT u) → Q v' H' := fun v' H' s' => k v' H' (extn_same s') (hT.ext s')
    have fF : ∀ {z z' : Str}, z ≠ z' → V.bl (decide (V.str z = V.str z')) = V.bl false := fun n => congrArg V.bl (decide_eq_false fun e => n (by injection e))
    have fT : ∀ {z : Str}, V.bl (decide (V.str z = V.str z)) = V.bl true := congrArg V.bl (decide_eq_true rfl)
    have okr := tl_inv hr'
    cases okr with
    | @is x kk hk1 =>
      cases hv with
      | @t pv vs _ ev hvs =>
      cases hvs with
      | @cons x0 _ _ _ q0 hvs =>
      cases hvs with
      | @cons x1 _ _ _ q1 hvs =>
      cases hvs
      cases q0
      have tx := q1.ty hk1
      have ed := D.ty_d hk1
      simp only [D.dep, depAll] at hdep
      simp only [D.size, sizeAll] at hsize
      refine ⟨_, rfl, pv, _, _, _, rfl, rfl, SqT.of ev, atI_nat (j := 0) rfl, gN ?_⟩
      dsimp only
      refine ⟨_, rfl, rfl, true, fT, iteT ⟨_, rfl, pv, _, _, _, rfl, rfl, SqT.of ev, atI_nat (j := 1) rfl, x1, kk, rfl, tx, by rw [ed]; omega, by rw [ed]; omega, hT, fun v' H1 e1 T1 d1 => ⟨l2, fun p1 n1 => ⟨l2, fun p2 n2 => ?_⟩⟩⟩⟩
      have sa := same_upd (o := .tup [.str "is", v']) n1
      have sb := same_upd (o := .tup [.ref p1, .int 1]) n2
      refine k _ _ (e1.trans (extn_same (sa.trans sb))) (T1.ext (sa.trans sb)) ?_
      unfold foT
      rw [ab_is hk1, hr']
      exact .t upd_same (.cons (.t (sb _ _ upd_same) (.cons (.s (txtIs _ (by simp))) (.cons (d1.mono (TK.of_same (sa.trans sb))) .nil))) (.cons (.i _) .nil))
    | @om x rx _ h1 h2 =>
      have ep : (D.t [.s "over made", x]).parts = [x] := by simp [D.parts]
      rw [ep] at hU
      have hkk := hk "over made" (by simp)
      rw [show oth "over made" = "under made" by decide +kernel] at hkk
      cases hv with
      | @t pv vs _ ev hvs =>
      cases hvs with
      | @cons x0 _ _ _ q0 hvs =>
      cases q0
      cases hU with
      | cons a1 hU =>
      cases hU
      obtain ⟨q, z, rfl, eq, hz⟩ := dAt_foT a1
      refine ⟨_, rfl, pv, _, _, _, rfl, rfl, SqT.of ev, atI_nat (j := 0) rfl, gN ?_⟩
      dsimp only
      refine ⟨_, rfl, rfl, false, fF (by decide), iteF ⟨_, rfl, rfl, false, fF (by decide), iteF ?_⟩⟩
      refine ⟨_, rfl, l2, fun p0 n0 => ⟨p0, _, rfl, .inr (SqT.of upd_same), rfl, flat_map ["over made", "under made"], _, rfl, ?_⟩⟩
      rw [if_neg (by decide), show inV (.str "over made") [.str "over made", .str "under made"] = true by decide +kernel]
      have s0 := same_upd (o := .tup [.str "over made", .str "under made"]) n0
      refine iteT ⟨_, rfl, L, _, _, _, rfl, rfl, SqL.of (s0 _ _ eL), atI_nat (j := 0) rfl, q, _, rfl, SqT.of (s0 _ _ eq), rfl, _, _, rfl, _, _, rfl, rfl, ?_⟩
      dsimp only
      refine ⟨_, rfl, dt, _, _, rfl, rfl, hkk, _, rfl, l2, fun p1 n1 => ⟨_, rfl, _, _, rfl, rfl, l2, fun p2 n2 => ?_⟩⟩
      have sa := same_upd (o := .tup [.str "under made", z]) n1
      have sb := same_upd (o := .tup [.ref p1, .int (wOf x.tl - 1)]) n2
      refine kS _ _ (s0.trans (sa.trans sb)) ?_
      unfold foT
      have ew : wOf (D.t [.s "over made", x]).tl = wOf x.tl - 1 := by
        obtain ⟨A, a, z0, e1, rfl⟩ := madeO_inv h2
        rw [hr', h1]
        simp only [wOf, e1, List.length_append, List.length_cons, List.length_nil]
        omega
      rw [ab_om, ew]
      exact .t upd_same (.cons (.t (sb _ _ upd_same) (.cons (.s (txtIs _ (by simp))) (.cons (hz.mono (TK.of_same (s0.trans (sa.trans sb)))) .nil))) (.cons (.i _) .nil))
    | @um x rx _ h1 h2 =>
      have ep : (D.t [.s "under made", x]).parts = [x] := by simp [D.parts]
      rw [ep] at hU
      have hkk := hk "under made" (by simp)
      rw [show oth "under made" = "over made" by decide +kernel] at hkk
      cases hv with
      | @t pv vs _ ev hvs =>
      cases hvs with
      | @cons x0 _ _ _ q0 hvs =>
      cases q0
      cases hU with
      | cons a1 hU =>
      cases hU
      obtain ⟨q, z, rfl, eq, hz⟩ := dAt_foT a1
      refine ⟨_, rfl, pv, _, _, _, rfl, rfl, SqT.of ev, atI_nat (j := 0) rfl, gN ?_⟩
      dsimp only
      refine ⟨_, rfl, rfl, false, fF (by decide), iteF ⟨_, rfl, rfl, false, fF (by decide), iteF ?_⟩⟩
      refine ⟨_, rfl, l2, fun p0 n0 => ⟨p0, _, rfl, .inr (SqT.of upd_same), rfl, flat_map ["over made", "under made"], _, rfl, ?_⟩⟩
      rw [if_neg (by decide), show inV (.str "under made") [.str "over made", .str "under made"] = true by decide +kernel]
      have s0 := same_upd (o := .tup [.str "over made", .str "under made"]) n0
      refine iteT ⟨_, rfl, L, _, _, _, rfl, rfl, SqL.of (s0 _ _ eL), atI_nat (j := 0) rfl, q, _, rfl, SqT.of (s0 _ _ eq), rfl, _, _, rfl, _, _, rfl, rfl, ?_⟩
      dsimp only
      refine ⟨_, rfl, dt, _, _, rfl, rfl, hkk, _, rfl, l2, fun p1 n1 => ⟨_, rfl, _, _, rfl, rfl, l2, fun p2 n2 => ?_⟩⟩
      have sa := same_upd (o := .tup [.str "over made", z]) n1
      have sb := same_upd (o := .tup [.ref p1, .int (wOf x.tl - 1)]) n2
      refine kS _ _ (s0.trans (sa.trans sb)) ?_
      unfold foT
      have ew : wOf (D.t [.s "under made", x]).tl = wOf x.tl - 1 := by
        obtain ⟨a, b, B, e1, rfl⟩ := madeU_inv h2
        rw [hr', h1]
        simp only [wOf, e1, List.length_append, List.length_cons, List.length_nil]
        omega
      rw [ab_um, ew]
      exact .t upd_same (.cons (.t (sb _ _ upd_same) (.cons (.s (txtIs _ (by simp))) (.cons (hz.mono (TK.of_same (s0.trans (sa.trans sb)))) .nil))) (.cons (.i _) .nil))
    | @tm x y rx ry h1 h2 =>
      have ep : (D.t [.s "then made", x, y]).parts = [x, y] := by simp [D.parts]
      rw [ep] at hU
      cases hv with
      | @t pv vs _ ev hvs =>
      cases hvs with
      | @cons x0 _ _ _ q0 hvs =>
      cases q0
      cases hU with
      | cons a1 hU =>
      cases hU with
      | cons a2 hU =>
      cases hU
      obtain ⟨q, z, rfl, eq, hz⟩ := dAt_foT a1
      obtain ⟨qq, zz, rfl, eqq, hzz⟩ := dAt_foT a2
      refine ⟨_, rfl, pv, _, _, _, rfl, rfl, SqT.of ev, atI_nat (j := 0) rfl, gN ?_⟩
      dsimp only
      refine ⟨_, rfl, rfl, false, fF (by decide), iteF ⟨_, rfl, rfl, true, fT, iteT ?_⟩⟩
      refine ⟨_, rfl, L, _, rfl, SqL.of eL, rfl, _, _, rfl, ⟨q, _, rfl, SqT.of eq, rfl, _, _, rfl, _, _, rfl, rfl, _, _, rfl, ⟨qq, _, rfl, SqT.of eqq, rfl, _, _, rfl, _, _, rfl, rfl, rfl, ?_⟩⟩⟩
      dsimp only
      refine ⟨_, rfl, _, rfl, l3, fun p1 n1 => ⟨_, rfl, _, rfl, _, _, rfl, rfl, l2, fun p2 n2 => ?_⟩⟩
      have sa := same_upd (o := .tup [.str "then made", zz, z]) n1
      have sb := same_upd (o := .tup [.ref p1, .int (wOf x.tl + wOf y.tl)]) n2
      refine kS _ _ (sa.trans sb) ?_
      unfold foT
      have ew : wOf (D.t [.s "then made", x, y]).tl = wOf x.tl + wOf y.tl := by
        rw [hr', h1, h2]
        simp only [wOf, thenM, List.length_append]
        omega
      rw [ab_tm, ew]
      have tk := TK.of_same (sa.trans sb)
      exact .t upd_same (.cons (.t (sb _ _ upd_same) (.cons (.s (txtIs _ (by simp))) (.cons (hzz.mono tk) (.cons (hz.mono tk) .nil)))) (.cons (.i _) .nil))
    | @tu p y ry _ h1 h2 =>
      have ep : (D.t [.s "then used", .i p, y]).parts = [y] := by simp [D.parts]
      rw [ep] at hU
      have hv' := hv
      cases hv with
      | @t pv vs _ ev hvs =>
      cases hvs with
      | @cons x0 _ _ _ q0 hvs =>
      cases q0
      refine ⟨_, rfl, pv, _, _, _, rfl, rfl, SqT.of ev, atI_nat (j := 0) rfl, gN ?_⟩
      dsimp only
      refine ⟨_, rfl, rfl, false, fF (by decide), iteF ⟨_, rfl, rfl, false, fF (by decide), iteF ?_⟩⟩
      refine ⟨_, rfl, l2, fun p0 n0 => ⟨p0, _, rfl, .inr (SqT.of upd_same), rfl, flat_map ["over made", "under made"], _, rfl, ?_⟩⟩
      rw [if_neg (by decide), show inV (.str "then used") [.str "over made", .str "under made"] = false by decide +kernel]
      have s0 := same_upd (o := .tup [.str "over made", .str "under made"]) n0
      exact iteF ⟨_, rfl, _, rfl, .ref pv, L, us, "then used", p, [y], r, rfl, hv'.mono (TK.of_same s0), hr', .inl ⟨rfl, y, rfl⟩, s0 _ _ eL, hU.mono (TK.of_same s0), fun v' H' s' => kS v' H' (s0.trans s')⟩
    | @us nm p x y rx ry _ c h1 h2 h3 =>
      have cc := placed_cases c
      have ep : (D.t [.s nm, .i p, x, y]).parts = [x, y] := by simp [D.parts]
      rw [ep] at hU
      have hv' := hv
      cases hv with
      | @t pv vs _ ev hvs =>
      cases hvs with
      | @cons x0 _ _ _ q0 hvs =>
      cases q0
      refine ⟨_, rfl, pv, _, _, _, rfl, rfl, SqT.of ev, atI_nat (j := 0) rfl, gN ?_⟩
      dsimp only
      refine ⟨_, rfl, rfl, false, fF (by rcases cc with rfl | rfl | rfl <;> decide), iteF ⟨_, rfl, rfl, false, fF (by rcases cc with rfl | rfl | rfl <;> decide), iteF ?_⟩⟩
      refine ⟨_, rfl, l2, fun p0 n0 => ⟨p0, _, rfl, .inr (SqT.of upd_same), rfl, flat_map ["over made", "under made"], _, rfl, ?_⟩⟩
      rw [if_neg (by decide), show inV (.str nm) [.str "over made", .str "under made"] = false by rcases cc with rfl | rfl | rfl <;> decide +kernel]
      have s0 := same_upd (o := .tup [.str "over made", .str "under made"]) n0
      exact iteF ⟨_, rfl, _, rfl, .ref pv, L, us, nm, p, [x, y], r, rfl, hv'.mono (TK.of_same s0), hr', .inr ⟨c, x, y, rfl⟩, s0 _ _ eL, hU.mono (TK.of_same s0), fun v' H' s' => kS v' H' (s0.trans s')⟩
end
end U6

namespace U6
open PySem PySem.Spec PyProof.Rows L2 LamX KT
open PySem.W (Frag)
theorem DsAt.take {H : Hp} : ∀ {ds : List D} {vs : List V} (n : Nat), DsAt H vs ds → DsAt H (vs.take n) (ds.take n)
  | [], _, n, .nil => by rw [List.take_nil, List.take_nil]; exact .nil
  | _ :: _, _, 0, .cons h r => .nil
  | _ :: _, _, n + 1, .cons h r => .cons h (r.take n)
theorem slA_take {K : Frag} {H : Hp} {p : Addr} {xs : List V} {ds : List D} {k : Nat} {Q : VK} (e : H p = some (.tup xs)) (h : DsAt H xs ds) (q : ∀ v' H', Same H H' → DAt H' v' (.t (ds.take k)) → Q v' H') : rSlA K (.ref p) none (some (k : Int)) H Q := by
  have l := h.length
  refine ⟨p, xs, rfl, SqT.of e, fun w => ?_, fun _ r nr => ?_⟩
  · have w2 := w.2
    rw [HT.sIx_nat] at w2
    have : ds.take k = ds := List.take_of_length_le (by omega)
    refine q _ H (Same.refl H) ?_
    rw [this]
    exact .t e h
  · have s := same_upd (o := .tup (cutV xs none (some (k : Int)))) nr
    have key : DsAt H (cutV xs none (some (k : Int))) (ds.take k) := by rw [cutV_take]; exact h.take k
    exact q _ _ s (.t upd_same (key.mono (TK.of_same s)))
theorem slA_drop {K : Frag} {H : Hp} {p : Addr} {xs : List V} {ds : List D} {k : Nat} {Q : VK} (e : H p = some (.tup xs)) (h : DsAt H xs ds) (q : ∀ v' H', Same H H' → DAt H' v' (.t (ds.drop k)) → Q v' H') : rSlA K (.ref p) (some (k : Int)) none H Q := by
  have l := h.length
  refine ⟨p, xs, rfl, SqT.of e, fun w => ?_, fun _ r nr => ?_⟩
  · have w1 := w.1
    rw [HT.sIx_nat] at w1
    refine q _ H (Same.refl H) ?_
    by_cases c : k = 0
    · subst c
      exact .t e h
    · have : ds.length = 0 := by omega
      obtain rfl := List.eq_nil_of_length_eq_zero this
      rw [List.drop_nil]
      exact .t e h
  · have s := same_upd (o := .tup (cutV xs (some (k : Int)) none)) nr
    have key : DsAt H (cutV xs (some (k : Int)) none) (ds.drop k) := by rw [cutV_from]; exact h.drop k
    exact q _ _ s (.t upd_same (key.mono (TK.of_same s)))
theorem catA {K : Frag} {H : Hp} {x y : V} {l m : List D} {Q : VK} (h : DAt H x (.t l)) (h' : DAt H y (.t m)) (z : l.length + m.length ≤ 10000) (q : ∀ v' H', Same H H' → DAt H' v' (.t (l ++ m)) → Q v' H') : rCatA K x y H Q := by
  cases h with
  | @t a xs _ e h =>
    cases h' with
    | @t b ys _ e' h' =>
      have l1 := h.length
      have l2 := h'.length
      refine ⟨a, b, xs, ys, rfl, rfl, SqT.of e, SqT.of e', by rw [sizeLine_eq]; omega, ?_, ?_, ?_⟩
      · rintro rfl
        cases h
        exact q _ H (Same.refl H) (.t e' h')
      · rintro _ rfl
        cases h'
        rw [List.append_nil] at q
        exact q _ H (Same.refl H) (.t e h)
      · intro _ _ r nr
        have s := same_upd (o := .tup (xs ++ ys)) nr
        exact q _ _ s (.t upd_same ((h.append h').mono (TK.of_same s)))
/-- the bounds of what is bent -/
theorem depAll_app (l r : List D) : depAll (l ++ r) = max (depAll l) (depAll r) := by
  induction l with
  | nil => simp [depAll]
  | cons a l ih => simp only [List.cons_append, depAll, ih]; omega
theorem part_split {l : List D} {n : Nat} {p : D} (h : l[n]? = some p) : depAll l = max (depAll (l.take n)) (max p.dep (depAll (l.drop (n + 1)))) ∧ sizeAll l = sizeAll (l.take n) + p.size + sizeAll (l.drop (n + 1)) := by
  obtain ⟨hn, e⟩ := List.getElem?_eq_some_iff.mp h
  have q : l = l.take n ++ (p :: l.drop (n + 1)) := by
    rw [← e, List.getElem_cons_drop, List.take_append_drop]
  have q1 := congrArg depAll q
  have q2 := congrArg sizeAll q
  rw [depAll_app, depAll] at q1
  rw [sizeAll_app, sizeAll] at q2
  exact ⟨q1, by omega⟩
/-- the tuples within what tells something tell something themselves -/
theorem tl_tups {ds : List D} (h : (D.t ds).tl.isSome = true) : ∃ nm r, ds = .s nm :: r ∧ (nm ≠ "is" → ∀ p ∈ ds, p.isTup = true → p.tl.isSome = true) := by
  obtain ⟨r, e⟩ := Option.isSome_iff_exists.mp h
  have some1 : ∀ {x : D} {r : Told}, x.tl = some r → x.tl.isSome = true := fun q => by rw [q]; rfl
  generalize hu : D.t ds = u at e
  cases tl_inv e with
  | is hk => cases hu; exact ⟨_, _, rfl, fun z => absurd rfl z⟩
  | om h1 h2 =>
    cases hu
    refine ⟨_, _, rfl, fun _ p hp tp => ?_⟩
    simp only [List.mem_cons, List.not_mem_nil, or_false] at hp
    rcases hp with rfl | rfl
    · cases tp
    · exact some1 h1
  | um h1 h2 =>
    cases hu
    refine ⟨_, _, rfl, fun _ p hp tp => ?_⟩
    simp only [List.mem_cons, List.not_mem_nil, or_false] at hp
    rcases hp with rfl | rfl
    · cases tp
    · exact some1 h1
  | tm h1 h2 =>
    cases hu
    refine ⟨_, _, rfl, fun _ p hp tp => ?_⟩
    simp only [List.mem_cons, List.not_mem_nil, or_false] at hp
    rcases hp with rfl | rfl | rfl
    · cases tp
    · exact some1 h1
    · exact some1 h2
  | tu h1 h2 =>
    cases hu
    refine ⟨_, _, rfl, fun _ p hp tp => ?_⟩
    simp only [List.mem_cons, List.not_mem_nil, or_false] at hp
    rcases hp with rfl | rfl | rfl
    · cases tp
    · cases tp
    · exact some1 h1
  | us c h1 h2 h3 =>
    cases hu
    refine ⟨_, _, rfl, fun _ p hp tp => ?_⟩
    simp only [List.mem_cons, List.not_mem_nil, or_false] at hp
    rcases hp with rfl | rfl | rfl | rfl
    · cases tp
    · cases tp
    · exact some1 h1
    · exact some1 h2
theorem tl_len4 {ds : List D} (h : (D.t ds).tl.isSome = true) : 1 ≤ ds.length ∧ ds.length ≤ 4 := by
  obtain ⟨r, e⟩ := Option.isSome_iff_exists.mp h
  generalize hu : D.t ds = u at e
  cases tl_inv e <;> cases hu <;> simp
end U6

namespace U6
open PySem PySem.Spec PyProof.Rows L2 NdefX LamX KT
open PySem.W (Frag)
/-- a promise that stands on pins, where none are there -/
theorem fnD_at0 {P : Program} {w : World} {K : Frag} {mg : Str → Option Value} {base : Heap} {k : Nat} {f : Addr} {fd : FuncData} {ps : List Str} {sp : Pins → Sp} (F : FnD P w K mg base k f fd ps sp) (h0 : ∀ vs H Q E, sp [] vs H Q E → sp [] vs H Q L2.E0) : FnOk P w K mg base L2.CX0 k f fd ps (sp []) := by
  refine ⟨fun vs H Q E h => F.len [] vs H Q (h0 _ _ _ _ h), fun B outer s H args us vs Q E hr e0 hb r h => codeAny_mono (F.run [] B outer s H args us vs Q hr e0 hb r Dep.nil (h0 _ _ _ _ h)) fun q s' hq => ?_⟩
  match q, hq with
  | .error _, hq => exact False.elim hq
  | .ok (.ret _), hq => exact hq
  | .ok .next, hq => exact False.elim hq
  | .ok .brk, hq => exact False.elim hq
  | .ok .cont, hq => exact False.elim hq
/-- all knots of a derivation tell something -/
theorem tl_nodes : ∀ (n : Nat) (u : D), u.size ≤ n → u.tl.isSome = true → ∀ x ∈ u.nodes, x.tl.isSome = true := by
  intro n
  induction n with
  | zero => intro u h; have := u.size_pos; omega
  | succ n ih =>
    intro u hz h x hx
    obtain ⟨r, hr⟩ := Option.isSome_iff_exists.mp h
    have f := (allK_fm (tl_allK _ u r (Nat.le_refl _) hr)).1
    rw [f.nodes] at hx
    rcases List.mem_cons.mp hx with rfl | hx
    · exact h
    · obtain ⟨p, hp, hxp⟩ := mem_nodesAll hx
      have hp' := List.mem_reverse.mp hp
      have := size_mem hp'
      have := f.psize.1
      exact ih p (by omega) (tl_parts hr p hp') x hxp
theorem okD_nodes {d : D} (h : d.tl.isSome = true) (hd : d.dep ≤ 60) (hz : d.size ≤ 40000) : d.allK = true ∧ ∀ u ∈ d.nodes, OkD u := by
  obtain ⟨r, hr⟩ := Option.isSome_iff_exists.mp h
  have a := tl_allK _ d r (Nat.le_refl _) hr
  refine ⟨a, fun u hu => ?_⟩
  obtain ⟨b1, b2⟩ := nodes_bd d.size d (Nat.le_refl _) a u hu
  exact ⟨tl_nodes d.size d (Nat.le_refl _) h u hu, by omega, by omega⟩
section
variable {P : Program} {w : World} {K : Frag} {mg : Str → Option Value} {base : Heap} {T : List (Addr × Str)}
def spFK (P : Program) (w : World) (K : Frag) (mg : Str → Option Value) (base : Heap) (T : List (Addr × Str)) (DD : Pins) : Sp := fun vs H Q _ => ∃ v d f3 fo EX Ok H0, vs = [v, .ref f3] ∧ ExtN H0 H ∧ Tabs T H ∧ DAt H v d ∧ d.allK = true ∧ d.size ≤ 1000000 ∧ (∀ u ∈ d.nodes, Ok u) ∧
  Callee P w K mg base 7 f3 (spNodeG T D.parts Ok H0 fo) DD EX ∧ ExOk EX H ∧ (∀ p ∈ EX, ∀ ps, p.2 ≠ HO.tbl ps) ∧ ∀ v' H', ExtN H H' → Tabs T H' → DAt H' v' (fo d) → Q v' H'
/-- what the walk of derivations stands upon -/
structure TKs (K : Frag) (mg : Str → Option Value) (ff fi fn fp fb cF cI : Addr) (fdf fdi fdn fdp fdb : FuncData) : Prop where
  TF : TopC K mg "folded_knots" sFoldedKnots pFoldedKnots ff fdf cF
  TI : TopC K mg "from_inside" sFromInside pFromInside fi fdi cI
  TN : Top K mg "nodes_in" sNodesIn pNodesIn fn fdn
  TP : Top K mg "parts_of_knot" sPartsOfKnot pPartsOfKnot fp fdp
  TB : Top K mg "_parts_begin" sPartsBegin pPartsBegin fb fdb
theorem ok_foldedK {ff fi fn fp fb cF cI : Addr} {fdf fdi fdn fdp fdb : FuncData} (U : TKs K mg ff fi fn fp fb cF cI fdf fdi fdn fdp fdb) (G : Gb5 K w mg) (B : Blt mg) : FnD P w K mg base 9 ff fdf pFoldedKnots (spFK P w K mg base T) := by
  have GP : FnOk P w K mg base CX0 2 fp fdp pPartsOfKnot (spPartsG D.parts fun u => u.allK = true) := (ok_partsK U.TP U.TB G).imp fun vs H Q E h => by
    obtain ⟨v, u, e, hu, ha, k⟩ := h
    exact ⟨v, u, e, hu, (allK_fm ha).1, k⟩
  have GI : FnD P w K mg base 8 fi fdi pFromInside (spFIG P w K mg base 7 T D.parts D.nodes (fun u => u.allK = true) fp) := ok_fromInsideG treeD (by decide) U.TI U.TN U.TP GP B
  have TI := U.TI
  have TP := U.TP
  refine U.TF.fnd scFoldedKnots (fun DD vs H Q h => ?_) (fun DD A outer s H vs Q hr dp h => ?_)
  · obtain ⟨_, _, _, _, _, _, _, rfl, _⟩ := h
    rfl
  · obtain ⟨v, d, f3, fo, EX, Ok, H0, rfl, he0, hT, hd, ha, hz, hok, C, hx, nx, k⟩ := h
    refine ⟨_, (pss_one (ps_ret (pe_dcall (D0 := DD) (cl := []) (fr := []) (js := []) GI hr rfl (fun _ => rfl) dp (fun ok => Caps.nil) rfl TI.T.g TI.T.F.kp TI.T.b (pa_cons (pv 0) (pa_cons (pe_glob (v := .ref fp) rfl TP.g rfl) (pa_cons (pv 1) pa_nil)))))), ?_⟩
    refine ⟨v, rfl, .ref f3, rfl, fun D1 CD => ?_⟩
    exact ⟨v, d, f3, fo, EX, Ok, H0, rfl, he0, hT, hd, ha, hz, hok, C.mono (Nat.le_refl _) (fun p hp => List.mem_append.mpr (.inl hp)) (fun p hp => hp), hx, nx, k⟩
def spTurnDer (T : List (Addr × Str)) : Sp := fun vs H Q _ => ∃ v d, vs = [v] ∧ DAt H v d ∧ d.tl.isSome = true ∧ d.dep ≤ 60 ∧ d.size ≤ 40000 ∧ Tabs T H ∧ ∀ v' H', ExtN H H' → Tabs T H' → DAt H' v' d.ab → Q v' H'
theorem ok_turnDer {f ff fi fn fp fb cF cI fc fk : Addr} {fd fdf fdi fdn fdp fdb fdc fdk : FuncData} (TD : Top K mg "turned_derivation" sTurnedDerivation pTurnedDerivation f fd) (U : TKs K mg ff fi fn fp fb cF cI fdf fdi fdn fdp fdb) (G : Gb5 K w mg) (B : Blt mg)
    (TC : Top K mg "check_derivation" sCheckDerivation pCheckDerivation fc fdc) (GC : FnOk P w K mg base CX0 8 fc fdc pCheckDerivation spCheckDer) (TK0 : Top K mg "_turned_knot" sTurnedKnot pTurnedKnot fk fdk) (GK : ∀ H0, FnOk P w K mg base L2.CX0 7 fk fdk pTurnedKnot (spNodeG T D.parts OkD H0 foT)) : FnOk P w K mg base L2.CX0 10 f fd pTurnedDerivation (spTurnDer T) := by
  have GF : FnOk P w K mg base CX0 9 ff fdf pFoldedKnots (spFK P w K mg base T []) := fnD_at0 (ok_foldedK U G B) fun vs H Q E h => h
  have TF := U.TF.T
  refine TD.F.ok scTurnedDerivation (fun vs H Q E h => ?_) (fun cdv A outer s H vs Q E hr h => ?_)
  · obtain ⟨_, _, rfl, _⟩ := h
    rfl
  · obtain ⟨v, d, rfl, hd, hs, hdp, hz, hT, k⟩ := h
    have hr8 : Room 8 _ := hr.mono (by decide)
    refine ⟨_, (pss_cons (ps_expr (pe_call GC hr8 rfl TC.g TC.F.kp TC.b .nil pass0 (pa_cons (pv 0) pa_nil)))
      (pss_one (ps_ret (pe_ix ix_tup (pe_call GF hr rfl TF.g TF.F.kp TF.b .nil pass0 (pa_cons (pv 0) (pa_cons (pe_glob (v := .ref fk) rfl TK0.g rfl) pa_nil))) pe_int (fun _ _ => rfl))))), ?_⟩
    obtain ⟨ha, hok⟩ := okD_nodes hs hdp hz
    refine ⟨v, rfl, v, d, rfl, hd, hz, hdp, hs, fun H1 s1 => ?_⟩
    refine ⟨v, rfl, v, d, fk, foT, [], OkD, H1, rfl, ExtN.refl _, hT.ext s1, hd.mono (TK.of_same s1), ha, by omega, hok, callee_top (GK H1) TK0.F TK0.b, (fun p hp => absurd hp (by simp)), (fun p hp => absurd hp (by simp)), fun v' H' e' T' hv' => ?_⟩
    obtain ⟨q, z, rfl, eq, hz'⟩ := dAt_foT hv'
    exact ⟨q, _, _, _, rfl, rfl, SqT.of eq, atI_nat (j := 0) rfl, k _ _ ((extn_same s1).trans e') T' hz'⟩
def spWP : Sp := fun vs H Q _ => ∃ v L us nm r ds, vs = [v, .ref L] ∧ DAt H v (.t (.s nm :: r)) ∧ H L = some (.lst us) ∧ DsAt H us ds ∧ r.length ≤ 10 ∧ ds.length ≤ 10 ∧ ∀ v' H', Same H H' → DAt H' v' (.t ((.s nm :: r).take (if nm ∈ PL then 2 else 1) ++ ds)) → Q v' H'
theorem ok_withParts {f fb : Addr} {fd fdb : FuncData} (TW : Top K mg "with_parts" sWithParts pWithParts f fd) (TB : Top K mg "_parts_begin" sPartsBegin pPartsBegin fb fdb) (G : Gb5 K w mg) (B : Blt mg) : FnOk P w K mg base L2.CX0 2 f fd pWithParts spWP := by
  have GB : FnOk P w K mg base CX0 1 fb fdb pPartsBegin spBegin := ok_begin TB G
  refine TW.F.ok scWithParts (fun vs H Q E h => ?_) (fun cdv A outer s H vs Q E hr h => ?_)
  · obtain ⟨_, _, _, _, _, _, rfl, _⟩ := h
    rfl
  · obtain ⟨v, L, us, nm, r, ds, rfl, hv, eL, hU, lr, ld, k⟩ := h
    refine ⟨_, (pss_one (ps_ret (pe_op op_catA (pe_slice sl_tupA (pv 0) po_none (po_some (pe_call GB hr rfl TB.g TB.F.kp TB.b .nil pass0 (pa_cons (pe_ix ix_tup (pv 0) pe_int (fun _ _ => rfl)) pa_nil)))) (pe_callTy call_tuple_of (by rfl) B.tuple (by decide +kernel) (pa_cons (pv 1) pa_nil))))), ?_⟩
    cases hv with
    | @t pv vs _ ev hvs =>
    have hvs' := hvs
    cases hvs with
    | @cons x0 _ _ _ q0 hvs =>
    cases q0
    refine ⟨_, rfl, _, rfl, pv, _, _, _, rfl, rfl, SqT.of ev, atI_nat (j := 0) rfl, nm, rfl, _, rfl, slA_take ev hvs' fun v1 H1 s1 d1 => ?_⟩
    refine ⟨_, rfl, L, us, rfl, .inl ⟨SqL.of (s1 _ _ eL), fun l nl => ?_⟩⟩
    have s2 := same_upd (o := .tup us) nl
    refine catA (d1.mono (TK.of_same s2)) (.t upd_same ((hU.mono (TK.of_same s1)).mono (TK.of_same s2))) ?_ fun v' H' s' d' => k v' H' ((s1.trans s2).trans s') d'
    rw [List.length_take, List.length_cons]
    omega
end
end U6

namespace U6
open PySem PySem.Spec PyProof.Rows L2 NdefX LamX KT
open PySem.W (Frag)
/-! ### others at the leaves -/
def lfOf (f : Ty → D) (l m : List D) : D := match l, m with
  | [.s nm, x], [_, x'] => if nm = "is" then (match x.ty with | some t => f t | none => .o) else .t [.s nm, x']
  | [.s nm, p, _], [_, p', y'] => if nm = "then used" then .t [.s nm, p, y'] else .t [.s nm, p', y']
  | [.s nm, p, _, _], [_, _, x', y'] => .t [.s nm, p, x', y']
  | _, _ => .o
mutual
def D.lf (f : Ty → D) : D → D
  | .s z => .s z
  | .i n => .i n
  | .o => .o
  | .t l => lfOf f l (lfAll f l)
def lfAll (f : Ty → D) : List D → List D
  | [] => []
  | d :: r => d.lf f :: lfAll f r
end
section
variable {f : Ty → D}
theorem lf_is {x : D} {k : Ty} (h : x.ty = some k) : (D.t [.s "is", x]).lf f = f k := by simp [D.lf, lfAll, lfOf, h]
theorem lf_om {x : D} : (D.t [.s "over made", x]).lf f = .t [.s "over made", x.lf f] := by simp [D.lf, lfAll, lfOf]
theorem lf_um {x : D} : (D.t [.s "under made", x]).lf f = .t [.s "under made", x.lf f] := by simp [D.lf, lfAll, lfOf]
theorem lf_tm {x y : D} : (D.t [.s "then made", x, y]).lf f = .t [.s "then made", x.lf f, y.lf f] := by simp [D.lf, lfAll, lfOf]
theorem lf_tu {p : Int} {y : D} : (D.t [.s "then used", .i p, y]).lf f = .t [.s "then used", .i p, y.lf f] := by simp [D.lf, lfAll, lfOf]
theorem lf_us {nm : Str} {p : Int} {x y : D} : (D.t [.s nm, .i p, x, y]).lf f = .t [.s nm, .i p, x.lf f, y.lf f] := by simp [D.lf, lfAll, lfOf]
theorem mid_map {nm : Str} {k : Ty} {x : Told} {h : Ty → Ty} (hn : ∀ g a b, h (.n g a b) = .n g (h a) (h b)) : midOf nm (h k) (x.1.map h, h x.2) = (midOf nm k x).map h := by
  unfold midOf
  split
  · simp [hn]
  · split
    · simp [hn]
    · rfl
theorem lf_tl {h : Ty → Ty} (hn : ∀ g a b, h (.n g a b) = .n g (h a) (h b)) (hf : ∀ k, k.wok → (f k).tl = some ([h k], h k)) : ∀ (n : Nat) (u : D) (r : Told), u.size ≤ n → u.tl = some r → (u.lf f).tl = some (r.1.map h, h r.2) := by
  intro n
  induction n with
  | zero => intro u r h; have := u.size_pos; omega
  | succ n ih =>
    intro u r hz hu
    cases tl_inv hu with
    | @is x k hk => rw [lf_is hk]; exact hf k (D.ty_wok hk)
    | @om x rx _ h1 h2 =>
      simp only [D.size, sizeAll] at hz
      rw [lf_om]
      refine tl_of (.om (ih x rx (by omega) h1) ?_)
      obtain ⟨A, a, z, e1, rfl⟩ := madeO_inv h2
      rw [e1]
      simp only [List.map_cons, List.map_append, List.map_nil, hn]
      exact madeO_of
    | @um x rx _ h1 h2 =>
      simp only [D.size, sizeAll] at hz
      rw [lf_um]
      refine tl_of (.um (ih x rx (by omega) h1) ?_)
      obtain ⟨a, b, B, e1, rfl⟩ := madeU_inv h2
      rw [e1]
      simp only [List.map_cons, hn]
      rfl
    | @tm x y rx ry h1 h2 =>
      simp only [D.size, sizeAll] at hz
      rw [lf_tm, tl_of (.tm (ih x rx (by omega) h1) (ih y ry (by omega) h2))]
      simp [thenM, hn]
    | @tu p y ry _ h1 h2 =>
      simp only [D.size, sizeAll] at hz
      rw [lf_tu]
      refine tl_of (.tu (ih y ry (by omega) h1) ?_)
      obtain ⟨A, a, b, B, e1, e2, rfl⟩ := thenU_inv h2
      rw [e1, e2]
      have q := thenU_of (A := A.map h) (B := B.map h) (a := h a) (b := h b) (g := h ry.2)
      rw [List.length_map] at q
      simp only [List.map_append, List.map_cons, hn]
      exact q
    | @us nm p x y rx ry _ c h1 h2 h3 =>
      simp only [D.size, sizeAll] at hz
      rw [lf_us]
      refine tl_of (.us c (ih x rx (by omega) h1) (ih y ry (by omega) h2) ?_)
      obtain ⟨A, k, B, e1, e2, rfl, hk⟩ := usedAt_inv h3
      rw [e1, e2]
      have q := usedAt_of (nm := nm) (A := A.map h) (B := B.map h) (k := h k) (g := h ry.2) (x := (rx.1.map h, h rx.2)) fun n1 n2 => by rw [hk n1 n2]
      rw [List.length_map, mid_map hn] at q
      simp only [List.map_append, List.map_cons]
      exact q
end
section
variable {P : Program} {w : World} {K : Frag} {mg : Str → Option Value} {base : Heap} {T : List (Addr × Str)} {cF cK PF PK : Addr}
/-- a knot that is no leaf, with other parts -/
theorem wp_eq {f : Ty → D} {u : D} {r : Told} (h : u.tl = some r) : (∃ x k, u = .t [.s "is", x] ∧ x.ty = some k) ∨ ∃ (nm : Str) (l : List D), nm ≠ "is" ∧ u = .t (.s nm :: l) ∧ l.length ≤ 3 ∧ u.lf f = .t ((D.s nm :: l).take (if nm ∈ PL then 2 else 1) ++ u.parts.map (D.lf f)) := by
  cases tl_inv h with
  | @is x k hk => exact .inl ⟨x, k, rfl, hk⟩
  | @om x rx _ h1 h2 => exact .inr ⟨_, _, by decide, rfl, by simp, by rw [lf_om, if_neg (by decide)]; simp [D.parts]⟩
  | @um x rx _ h1 h2 => exact .inr ⟨_, _, by decide, rfl, by simp, by rw [lf_um, if_neg (by decide)]; simp [D.parts]⟩
  | @tm x y rx ry h1 h2 => exact .inr ⟨_, _, by decide, rfl, by simp, by rw [lf_tm, if_neg (by decide)]; simp [D.parts]⟩
  | @tu p y ry _ h1 h2 => exact .inr ⟨_, _, by decide, rfl, by simp, by rw [lf_tu, if_pos (by decide)]; simp [D.parts]⟩
  | @us nm p x y rx ry _ c h1 h2 h3 =>
    have cc := placed_cases c
    exact .inr ⟨nm, _, by rcases cc with rfl | rfl | rfl <;> decide, rfl, by simp, by rw [lf_us, if_pos (by rcases cc with rfl | rfl | rfl <;> decide)]; simp [D.parts]⟩
theorem ok_plainKnot {H0 : Hp} {f ff fi fn fp cI fs fw fb : Addr} {fd fdf fdi fdn fdp fds fdw fdb : FuncData} (TD : TopC K mg "_plain_knot" sPlainKnot pPlainKnot f fd cK) (tbK : Tb1 base mg T cK PK "_plain_knot.<locals>.<lambda>") (U : TFs K mg base T ff fi fn fp cI cF PF fdf fdi fdn fdp) (B : Blt mg)
    (TS : Top K mg "_plain_step" sPlainStep pPlainStep fs fds) (TW : Top K mg "with_parts" sWithParts pWithParts fw fdw) (TB : Top K mg "_parts_begin" sPartsBegin pPartsBegin fb fdb) (G : Gb5 K w mg) : FnOk P w K mg base L2.CX0 6 f fd pPlainKnot (spNodeG T D.parts OkD H0 (D.lf opD)) := by
  have GF : FnD P w K mg base 5 ff fdf pFolded (spFolded P w K mg base T) := ok_folded U.TF U.TI U.TN U.TP B U.tb
  have GS : FnOk P w K mg base L2.CX0 1 fs fds pPlainStep (spSg T opSg) := ok_plainStep TS
  have GW : FnOk P w K mg base L2.CX0 2 fw fdw pWithParts spWP := ok_withParts TW TB G B
  have TF := U.TF
  refine FnD.ok (TD.fnd scPlainKnot (sp := fun _ => spNodeG T D.parts OkD H0 (D.lf opD)) (fun DD vs H Q h => ?_) (fun DD A outer s H vs Q hr dp h => ?_)) fun vs H Q E h => h
  · obtain ⟨_, _, _, _, rfl, _⟩ := h
    rfl
  · obtain ⟨v, u, L, us, rfl, he0, hT, hv, ⟨hsome, hdep, hsize⟩, eL, hU, k⟩ := h
    have hr2 : Room 2 _ := hr.mono (by decide)
    have eq : (("_plain_knot" : Str) ++ (".<locals>." : Str)) ++ ("<lambda>" : Str) = ("_plain_knot.<locals>.<lambda>" : Str) := by decide +kernel
    refine ⟨_, (pss_cons (ps_if (pt_cmpR op_eq (pe_ix ix_tup (pv 0) pe_int (fun _ _ => rfl)) pe_str (nomark _)) (pss_one (ps_ret (pe_dcall (D0 := DD) (cl := []) (fr := []) (js := []) GF hr rfl (fun _ => rfl) dp (fun ok => Caps.nil) rfl TF.T.g TF.T.F.kp TF.T.b
        (pa_cons (pe_ix ix_tup (pv 0) pe_int (fun _ _ => rfl)) (pa_cons (pe_lamV (T := T) tbK.b rfl (by show (PK, (("_plain_knot" : Str) ++ (".<locals>." : Str)) ++ ("<lambda>" : Str)) ∈ _; rw [eq]; exact tbK.m) (fun p hp e => (tbK.u p hp e).trans eq.symm) rfl (ndef_free (sc := L2.defScope sPlainKnot) (fr := []) (by decide +kernel))) (pa_cons (pe_glob (v := .ref fs) rfl TS.g rfl) pa_nil)))))) pss_nil)
      (pss_one (ps_ret (pe_call GW hr2 rfl TW.g TW.F.kp TW.b .nil pass0 (pa_cons (pv 0) (pa_cons (pv 1) pa_nil)))))), ?_⟩
    obtain ⟨r, hr'⟩ := Option.isSome_iff_exists.mp hsome
    rcases wp_eq (f := opD) hr' with ⟨x, kk, rfl, hk1⟩ | ⟨nm, l, hne, rfl, ll, el⟩
    · cases hv with
      | @t pp vs _ ev hvs =>
      cases hvs with
      | @cons x0 _ _ _ q0 hvs =>
      cases hvs with
      | @cons x1 _ _ _ q1 hvs =>
      cases hvs
      cases q0
      have tx := q1.ty hk1
      have ed := D.ty_d hk1
      simp only [D.size, sizeAll] at hsize
      rw [lf_is hk1] at k
      refine ⟨_, rfl, pp, _, _, _, rfl, rfl, SqT.of ev, atI_nat (j := 0) rfl, rfl, true, congrArg V.bl (decide_eq_true rfl), iteT ?_⟩
      refine ⟨_, rfl, pp, _, _, _, rfl, rfl, SqT.of ev, atI_nat (j := 1) rfl, hT, fun f1 c' H2 eN nn T2 f0 e1 e2 => fun D1 CD => ?_⟩
      obtain ⟨EX, C1, x1', n1⟩ := lam_callee (P := P) (w := w) (K := K) (mg := mg) (base := base) (k := 1) (sp := spPl T (fun _ => True) H2 (fun z => .t [.s "is", .s z])) (D := DD ++ D1) (N := ["word"]) (ps := ["word"]) (fr := []) (ws := []) e1 e2 (nscope_by (by dsimp only [lamF]; decide +kernel)) (fun pm ctv us hl => match us, hl with | [_], _ => rfl)
        (fun vs H Q h => by obtain ⟨_, rfl, _⟩ := h; rfl) CellD.nil (fun A outer s H vs Q hr d h => by
          obtain ⟨z, rfl, _, hT, _, hz, k⟩ := h
          refine ⟨_, pe_tup (pa_cons pe_str (pa_cons (pv 0) pa_nil)), ?_⟩
          exact ⟨_, rfl, by show 2 ≤ sizeLine; rw [sizeLine_eq]; omega, fun p hp => k _ _ (extn_same (same_upd hp)) (hT.ext (same_upd hp)) (dAt_is upd_same (.s (isW_ok hz)))⟩)
      have C2 := (callee_top GS TS.F TS.b).mono (D' := DD ++ D1) (EX' := EX) (show 1 ≤ 2 by decide) (fun p hp => absurd hp (by simp)) (fun p hp => absurd hp (by simp))
      refine ⟨_, kk, f1, fs, _, _, EX, _, H2, rfl, ExtN.refl _, fun _ _ => trivial, tx.mono (extn_tk eN), by rw [ed]; omega, C1, C2, x1', n1, T2, fun v' H' e' T' hv' => k v' H' (eN.trans e') T' ?_⟩
      rw [← opD_fold]
      exact hv'
    · have hv' := hv
      cases hv with
      | @t pp vs _ ev hvs =>
      cases hvs with
      | @cons x0 _ _ _ q0 hvs =>
      cases q0
      refine ⟨_, rfl, pp, _, _, _, rfl, rfl, SqT.of ev, atI_nat (j := 0) rfl, rfl, false, congrArg V.bl (decide_eq_false fun e => hne (by injection e)), iteF ?_⟩
      have lu := hU.length
      refine ⟨_, rfl, _, rfl, .ref pp, L, us, nm, l, _, rfl, hv', eL, hU, by omega, ?_, fun v1 H1 s1 d1 => k v1 H1 (extn_same s1) (hT.ext s1) (by rw [el]; exact d1)⟩
      rw [List.length_map]
      have := (allK_fm (tl_allK _ _ r (Nat.le_refl _) hr')).1.psize.2
      omega
def spPlainOut (T : List (Addr × Str)) : Sp := fun vs H Q _ => ∃ v d, vs = [v] ∧ DAt H v d ∧ d.tl.isSome = true ∧ d.dep ≤ 60 ∧ d.size ≤ 40000 ∧ Tabs T H ∧ ∀ v' H', ExtN H H' → Tabs T H' → DAt H' v' (d.lf opD) → Q v' H'
theorem ok_plainOut {f ff fi fn fp fb cF' cI fc fk : Addr} {fd fdf fdi fdn fdp fdb fdc fdk : FuncData} (TD : Top K mg "plain_out" sPlainOut pPlainOut f fd) (U : TKs K mg ff fi fn fp fb cF' cI fdf fdi fdn fdp fdb) (G : Gb5 K w mg) (B : Blt mg)
    (TC : Top K mg "check_derivation" sCheckDerivation pCheckDerivation fc fdc) (GC : FnOk P w K mg base CX0 8 fc fdc pCheckDerivation spCheckDer) (TK0 : Top K mg "_plain_knot" sPlainKnot pPlainKnot fk fdk) (GK : ∀ H0, FnOk P w K mg base L2.CX0 6 fk fdk pPlainKnot (spNodeG T D.parts OkD H0 (D.lf opD))) : FnOk P w K mg base L2.CX0 10 f fd pPlainOut (spPlainOut T) := by
  have GF : FnOk P w K mg base CX0 9 ff fdf pFoldedKnots (spFK P w K mg base T []) := fnD_at0 (ok_foldedK U G B) fun vs H Q E h => h
  have TF := U.TF.T
  refine TD.F.ok scPlainOut (fun vs H Q E h => ?_) (fun cdv A outer s H vs Q E hr h => ?_)
  · obtain ⟨_, _, rfl, _⟩ := h
    rfl
  · obtain ⟨v, d, rfl, hd, hs, hdp, hz, hT, k⟩ := h
    have hr8 : Room 8 _ := hr.mono (by decide)
    refine ⟨_, (pss_cons (ps_expr (pe_call GC hr8 rfl TC.g TC.F.kp TC.b .nil pass0 (pa_cons (pv 0) pa_nil)))
      (pss_one (ps_ret (pe_call GF hr rfl TF.g TF.F.kp TF.b .nil pass0 (pa_cons (pv 0) (pa_cons (pe_glob (v := .ref fk) rfl TK0.g rfl) pa_nil)))))), ?_⟩
    obtain ⟨ha, hok⟩ := okD_nodes hs hdp hz
    refine ⟨v, rfl, v, d, rfl, hd, hz, hdp, hs, fun H1 s1 => ?_⟩
    exact ⟨v, rfl, v, d, fk, D.lf opD, [], OkD, H1, rfl, ExtN.refl _, hT.ext s1, hd.mono (TK.of_same s1), ha, by omega, hok, (callee_top (GK H1) TK0.F TK0.b).mono (by decide) (fun p hp => hp) (fun p hp => hp), (fun p hp => absurd hp (by simp)), (fun p hp => absurd hp (by simp)), fun v' H' e' T' hv' => k _ _ ((extn_same s1).trans e') T' hv'⟩
end
end U6

/-! Comprehensions of four clauses. -/
namespace KT
open PySem PySem.Spec PyProof.Rows L2
abbrev lc4 (elt t0 i0 t1 i1 t2 i2 t3 i3 : Expr) (f0 f1 f2 f3 : List Expr) (scope : Scope) (pos : Pos) : Expr := .ListComp elt [⟨t0, i0, f0, 0⟩, ⟨t1, i1, f1, 0⟩, ⟨t2, i2, f2, 0⟩, ⟨t3, i3, f3, 0⟩] scope pos

theorem turn4_0 (elt t0 i0 t1 i1 t2 i2 t3 i3 : Expr) (f0 f1 f2 f3 : List Expr) (scope : Scope) (pos : Pos) (it acc : Value) (env : Env) :
    compTurn (lc4 elt t0 i0 t1 i1 t2 i2 t3 i3 f0 f1 f2 f3 scope pos) 0 it acc env = (do
      standAt i0.pos
      match ← pyNext it with
      | none => pure (.done .next)
      | some v =>
        letOwnedTupleGo t0 it v
        assign t0 env v
        let mut ok := true
        for c in f0 do
          if ok then ok ← isTrue c env (eval c env)
        if ok then
          let x ← eval i1 env
          standAt i1.pos
          let x ← foldedSetIterable i1 env x
          let _ ← runOwn (.compStart (lc4 elt t0 i0 t1 i1 t2 i2 t3 i3 f0 f1 f2 f3 scope pos) 1 (← holding [x] (pyIter x)) acc env) env
        again (.compLoop (lc4 elt t0 i0 t1 i1 t2 i2 t3 i3 f0 f1 f2 f3 scope pos) 0 it acc env)) := by rfl

theorem turn4_1 (elt t0 i0 t1 i1 t2 i2 t3 i3 : Expr) (f0 f1 f2 f3 : List Expr) (scope : Scope) (pos : Pos) (it acc : Value) (env : Env) :
    compTurn (lc4 elt t0 i0 t1 i1 t2 i2 t3 i3 f0 f1 f2 f3 scope pos) 1 it acc env = (do
      standAt i1.pos
      match ← pyNext it with
      | none => pure (.done .next)
      | some v =>
        letOwnedTupleGo t1 it v
        assign t1 env v
        let mut ok := true
        for c in f1 do
          if ok then ok ← isTrue c env (eval c env)
        if ok then
          let x ← eval i2 env
          standAt i2.pos
          let x ← foldedSetIterable i2 env x
          let _ ← runOwn (.compStart (lc4 elt t0 i0 t1 i1 t2 i2 t3 i3 f0 f1 f2 f3 scope pos) 2 (← holding [x] (pyIter x)) acc env) env
        again (.compLoop (lc4 elt t0 i0 t1 i1 t2 i2 t3 i3 f0 f1 f2 f3 scope pos) 1 it acc env)) := by rfl

theorem turn4_2 (elt t0 i0 t1 i1 t2 i2 t3 i3 : Expr) (f0 f1 f2 f3 : List Expr) (scope : Scope) (pos : Pos) (it acc : Value) (env : Env) :
    compTurn (lc4 elt t0 i0 t1 i1 t2 i2 t3 i3 f0 f1 f2 f3 scope pos) 2 it acc env = (do
      standAt i2.pos
      match ← pyNext it with
      | none => pure (.done .next)
      | some v =>
        letOwnedTupleGo t2 it v
        assign t2 env v
        let mut ok := true
        for c in f2 do
          if ok then ok ← isTrue c env (eval c env)
        if ok then
          let x ← eval i3 env
          standAt i3.pos
          let x ← foldedSetIterable i3 env x
          let _ ← runOwn (.compStart (lc4 elt t0 i0 t1 i1 t2 i2 t3 i3 f0 f1 f2 f3 scope pos) 3 (← holding [x] (pyIter x)) acc env) env
        again (.compLoop (lc4 elt t0 i0 t1 i1 t2 i2 t3 i3 f0 f1 f2 f3 scope pos) 2 it acc env)) := by rfl

theorem turn4_3 (elt t0 i0 t1 i1 t2 i2 t3 i3 : Expr) (f0 f1 f2 f3 : List Expr) (scope : Scope) (pos : Pos) (it acc : Value) (env : Env) :
    compTurn (lc4 elt t0 i0 t1 i1 t2 i2 t3 i3 f0 f1 f2 f3 scope pos) 3 it acc env = (do
      standAt i3.pos
      match ← pyNext it with
      | none => pure (.done .next)
      | some v =>
        letOwnedTupleGo t3 it v
        assign t3 env v
        let mut ok := true
        for c in f3 do
          if ok then ok ← isTrue c env (eval c env)
        if ok then
          (do let _ ← call (.builtin "list.append") [acc, ← eval elt env])
        again (.compLoop (lc4 elt t0 i0 t1 i1 t2 i2 t3 i3 f0 f1 f2 f3 scope pos) 3 it acc env)) := by rfl

section
variable {prog : Program} {w : World} {A : Around} {R : Result → Shared → Prop} {s : Shared} {elt t0 i0 t1 i1 t2 i2 t3 i3 : Expr} {f0 f1 f2 f3 : List Expr} {scope : Scope} {pos : Pos} {it acc : Value} {env : Env}

theorem loop4_0 (hs : ∀ x, foldedSetIterable i1 env x = pure x) (I : Nat → Shared → Prop)
    (turn : ∀ n s, I n s → wpAny (model prog w) A (pyNext it) (fun r s₁ => match r with
      | none => R (.ok .next) s₁
      | some v => wpAny (model prog w) A (letOwnedTupleGo t0 it v) (fun _ s₁' => wpAny (model prog w) A (assign t0 env v) (fun _ s₂ =>
          wpAny (model prog w) A (forIn f0 true fun c r => if r = true then do let ok ← isTrue c env (eval c env); pure (ForInStep.yield ok) else pure (ForInStep.yield r)) (fun ok s₃ =>
            if ok = true then wpAny (model prog w) A (eval i1 env) (fun x s₄ => wpAny (model prog w) A (pyIter x) (fun it1 s₅ =>
              codeAny (model prog w) A (.compStart (lc4 elt t0 i0 t1 i1 t2 i2 t3 i3 f0 f1 f2 f3 scope pos) 1 it1 acc env) (fun r s' => match r with
                | .ok _ => ∃ m, m < n ∧ I m s'
                | .error _ => False) s₅) (notedBy (model prog w) A env fun e s' => R (.error e) s') s₄) (notedBy (model prog w) A env fun e s' => R (.error e) s') s₃
            else ∃ m, m < n ∧ I m s₃) (notedBy (model prog w) A env fun e s' => R (.error e) s') s₂) (notedBy (model prog w) A env fun e s' => R (.error e) s') s₁') (notedBy (model prog w) A env fun e s' => R (.error e) s') s₁) (notedBy (model prog w) A env fun e s' => R (.error e) s') s)
    (n : Nat) (h : I n s) :
    codeAny (model prog w) A (.compLoop (lc4 elt t0 i0 t1 i1 t2 i2 t3 i3 f0 f1 f2 f3 scope pos) 0 it acc env) R s := by
  refine codeAny_loop rfl I (fun n s hI => ?_) n h
  show wpAny _ A ((compTurn (lc4 elt t0 i0 t1 i1 t2 i2 t3 i3 f0 f1 f2 f3 scope pos) 0 it acc env).onRaise (fun x => do noteFrame x env; theTreesLotGoes x)) _ _ s
  refine wpAny_noted ?_
  rw [turn4_0]
  refine wpAny_bind (wpAny_standAt (wpAny_bind (wpAny_mono (turn n s hI) (fun r s₁ h₁ => ?_) fun _ _ h' => h')))
  cases r with
  | none => exact wpAny_pure h₁
  | some v =>
    refine wpAny_bind (wpAny_mono h₁ (fun _ s₁' h₁' => ?_) fun _ _ h' => h')
    refine wpAny_bind (wpAny_mono h₁' (fun _ s₂ h₂ => wpAny_bind (wpAny_mono h₂ (fun ok s₃ h₃ => ?_) fun _ _ h' => h')) fun _ _ h' => h')
    cases ok with
    | false => exact wpAny_pure ⟨rfl, h₃⟩
    | true =>
      refine wpAny_bind (wpAny_mono h₃ (fun x s₄ h₄ => ?_) fun _ _ h' => h')
      refine wpAny_bind (wpAny_standAt (wpAny_bind (wpAny_of_eq (hs x) (wpAny_bind (wpAny_holding (wpAny_mono h₄ (fun it1 s₅ h₅ => ?_) fun _ _ h' => h'))))))
      refine wpAny_bind (wpAny_runOwn ?_)
      rw [Around.mark_none]
      refine codeAny_mono h₅ fun r s' hr => ?_
      cases r with
      | ok f =>
        first
          | exact wpAny_pure ⟨rfl, hr⟩
          | exact wpAny_bind (wpAny_pure (wpAny_pure ⟨rfl, hr⟩))
      | error e => exact hr.elim

theorem loop4_1 (hs : ∀ x, foldedSetIterable i2 env x = pure x) (I : Nat → Shared → Prop)
    (turn : ∀ n s, I n s → wpAny (model prog w) A (pyNext it) (fun r s₁ => match r with
      | none => R (.ok .next) s₁
      | some v => wpAny (model prog w) A (letOwnedTupleGo t1 it v) (fun _ s₁' => wpAny (model prog w) A (assign t1 env v) (fun _ s₂ =>
          wpAny (model prog w) A (forIn f1 true fun c r => if r = true then do let ok ← isTrue c env (eval c env); pure (ForInStep.yield ok) else pure (ForInStep.yield r)) (fun ok s₃ =>
            if ok = true then wpAny (model prog w) A (eval i2 env) (fun x s₄ => wpAny (model prog w) A (pyIter x) (fun it1 s₅ =>
              codeAny (model prog w) A (.compStart (lc4 elt t0 i0 t1 i1 t2 i2 t3 i3 f0 f1 f2 f3 scope pos) 2 it1 acc env) (fun r s' => match r with
                | .ok _ => ∃ m, m < n ∧ I m s'
                | .error _ => False) s₅) (notedBy (model prog w) A env fun e s' => R (.error e) s') s₄) (notedBy (model prog w) A env fun e s' => R (.error e) s') s₃
            else ∃ m, m < n ∧ I m s₃) (notedBy (model prog w) A env fun e s' => R (.error e) s') s₂) (notedBy (model prog w) A env fun e s' => R (.error e) s') s₁') (notedBy (model prog w) A env fun e s' => R (.error e) s') s₁) (notedBy (model prog w) A env fun e s' => R (.error e) s') s)
    (n : Nat) (h : I n s) :
    codeAny (model prog w) A (.compLoop (lc4 elt t0 i0 t1 i1 t2 i2 t3 i3 f0 f1 f2 f3 scope pos) 1 it acc env) R s := by
  refine codeAny_loop rfl I (fun n s hI => ?_) n h
  show wpAny _ A ((compTurn (lc4 elt t0 i0 t1 i1 t2 i2 t3 i3 f0 f1 f2 f3 scope pos) 1 it acc env).onRaise (fun x => do noteFrame x env; theTreesLotGoes x)) _ _ s
  refine wpAny_noted ?_
  rw [turn4_1]
  refine wpAny_bind (wpAny_standAt (wpAny_bind (wpAny_mono (turn n s hI) (fun r s₁ h₁ => ?_) fun _ _ h' => h')))
  cases r with
  | none => exact wpAny_pure h₁
  | some v =>
    refine wpAny_bind (wpAny_mono h₁ (fun _ s₁' h₁' => ?_) fun _ _ h' => h')
    refine wpAny_bind (wpAny_mono h₁' (fun _ s₂ h₂ => wpAny_bind (wpAny_mono h₂ (fun ok s₃ h₃ => ?_) fun _ _ h' => h')) fun _ _ h' => h')
    cases ok with
    | false => exact wpAny_pure ⟨rfl, h₃⟩
    | true =>
      refine wpAny_bind (wpAny_mono h₃ (fun x s₄ h₄ => ?_) fun _ _ h' => h')
      refine wpAny_bind (wpAny_standAt (wpAny_bind (wpAny_of_eq (hs x) (wpAny_bind (wpAny_holding (wpAny_mono h₄ (fun it1 s₅ h₅ => ?_) fun _ _ h' => h'))))))
      refine wpAny_bind (wpAny_runOwn ?_)
      rw [Around.mark_none]
      refine codeAny_mono h₅ fun r s' hr => ?_
      cases r with
      | ok f =>
        first
          | exact wpAny_pure ⟨rfl, hr⟩
          | exact wpAny_bind (wpAny_pure (wpAny_pure ⟨rfl, hr⟩))
      | error e => exact hr.elim

theorem loop4_2 (hs : ∀ x, foldedSetIterable i3 env x = pure x) (I : Nat → Shared → Prop)
    (turn : ∀ n s, I n s → wpAny (model prog w) A (pyNext it) (fun r s₁ => match r with
      | none => R (.ok .next) s₁
      | some v => wpAny (model prog w) A (letOwnedTupleGo t2 it v) (fun _ s₁' => wpAny (model prog w) A (assign t2 env v) (fun _ s₂ =>
          wpAny (model prog w) A (forIn f2 true fun c r => if r = true then do let ok ← isTrue c env (eval c env); pure (ForInStep.yield ok) else pure (ForInStep.yield r)) (fun ok s₃ =>
            if ok = true then wpAny (model prog w) A (eval i3 env) (fun x s₄ => wpAny (model prog w) A (pyIter x) (fun it1 s₅ =>
              codeAny (model prog w) A (.compStart (lc4 elt t0 i0 t1 i1 t2 i2 t3 i3 f0 f1 f2 f3 scope pos) 3 it1 acc env) (fun r s' => match r with
                | .ok _ => ∃ m, m < n ∧ I m s'
                | .error _ => False) s₅) (notedBy (model prog w) A env fun e s' => R (.error e) s') s₄) (notedBy (model prog w) A env fun e s' => R (.error e) s') s₃
            else ∃ m, m < n ∧ I m s₃) (notedBy (model prog w) A env fun e s' => R (.error e) s') s₂) (notedBy (model prog w) A env fun e s' => R (.error e) s') s₁') (notedBy (model prog w) A env fun e s' => R (.error e) s') s₁) (notedBy (model prog w) A env fun e s' => R (.error e) s') s)
    (n : Nat) (h : I n s) :
    codeAny (model prog w) A (.compLoop (lc4 elt t0 i0 t1 i1 t2 i2 t3 i3 f0 f1 f2 f3 scope pos) 2 it acc env) R s := by
  refine codeAny_loop rfl I (fun n s hI => ?_) n h
  show wpAny _ A ((compTurn (lc4 elt t0 i0 t1 i1 t2 i2 t3 i3 f0 f1 f2 f3 scope pos) 2 it acc env).onRaise (fun x => do noteFrame x env; theTreesLotGoes x)) _ _ s
  refine wpAny_noted ?_
  rw [turn4_2]
  refine wpAny_bind (wpAny_standAt (wpAny_bind (wpAny_mono (turn n s hI) (fun r s₁ h₁ => ?_) fun _ _ h' => h')))
  cases r with
  | none => exact wpAny_pure h₁
  | some v =>
    refine wpAny_bind (wpAny_mono h₁ (fun _ s₁' h₁' => ?_) fun _ _ h' => h')
    refine wpAny_bind (wpAny_mono h₁' (fun _ s₂ h₂ => wpAny_bind (wpAny_mono h₂ (fun ok s₃ h₃ => ?_) fun _ _ h' => h')) fun _ _ h' => h')
    cases ok with
    | false => exact wpAny_pure ⟨rfl, h₃⟩
    | true =>
      refine wpAny_bind (wpAny_mono h₃ (fun x s₄ h₄ => ?_) fun _ _ h' => h')
      refine wpAny_bind (wpAny_standAt (wpAny_bind (wpAny_of_eq (hs x) (wpAny_bind (wpAny_holding (wpAny_mono h₄ (fun it1 s₅ h₅ => ?_) fun _ _ h' => h'))))))
      refine wpAny_bind (wpAny_runOwn ?_)
      rw [Around.mark_none]
      refine codeAny_mono h₅ fun r s' hr => ?_
      cases r with
      | ok f =>
        first
          | exact wpAny_pure ⟨rfl, hr⟩
          | exact wpAny_bind (wpAny_pure (wpAny_pure ⟨rfl, hr⟩))
      | error e => exact hr.elim

theorem loop4_3 (I : Nat → Shared → Prop)
    (turn : ∀ n s, I n s → wpAny (model prog w) A (pyNext it) (fun r s₁ => match r with
      | none => R (.ok .next) s₁
      | some v => wpAny (model prog w) A (letOwnedTupleGo t3 it v) (fun _ s₁' => wpAny (model prog w) A (assign t3 env v) (fun _ s₂ =>
          wpAny (model prog w) A (forIn f3 true fun c r => if r = true then do let ok ← isTrue c env (eval c env); pure (ForInStep.yield ok) else pure (ForInStep.yield r)) (fun ok s₃ =>
            if ok = true then wpAny (model prog w) A (eval elt env) (fun x s₄ =>
              wpAny (model prog w) A (call (.builtin "list.append") [acc, x]) (fun _ s₅ => ∃ m, m < n ∧ I m s₅) (notedBy (model prog w) A env fun e s' => R (.error e) s') s₄) (notedBy (model prog w) A env fun e s' => R (.error e) s') s₃
            else ∃ m, m < n ∧ I m s₃) (notedBy (model prog w) A env fun e s' => R (.error e) s') s₂) (notedBy (model prog w) A env fun e s' => R (.error e) s') s₁') (notedBy (model prog w) A env fun e s' => R (.error e) s') s₁) (notedBy (model prog w) A env fun e s' => R (.error e) s') s)
    (n : Nat) (h : I n s) :
    codeAny (model prog w) A (.compLoop (lc4 elt t0 i0 t1 i1 t2 i2 t3 i3 f0 f1 f2 f3 scope pos) 3 it acc env) R s := by
  refine codeAny_loop rfl I (fun n s hI => ?_) n h
  show wpAny _ A ((compTurn (lc4 elt t0 i0 t1 i1 t2 i2 t3 i3 f0 f1 f2 f3 scope pos) 3 it acc env).onRaise (fun x => do noteFrame x env; theTreesLotGoes x)) _ _ s
  refine wpAny_noted ?_
  rw [turn4_3]
  refine wpAny_bind (wpAny_standAt (wpAny_bind (wpAny_mono (turn n s hI) (fun r s₁ h₁ => ?_) fun _ _ h' => h')))
  cases r with
  | none => exact wpAny_pure h₁
  | some v =>
    refine wpAny_bind (wpAny_mono h₁ (fun _ s₁' h₁' => ?_) fun _ _ h' => h')
    refine wpAny_bind (wpAny_mono h₁' (fun _ s₂ h₂ => wpAny_bind (wpAny_mono h₂ (fun ok s₃ h₃ => ?_) fun _ _ h' => h')) fun _ _ h' => h')
    cases ok with
    | false => exact wpAny_pure ⟨rfl, h₃⟩
    | true =>
      exact wpAny_bind (wpAny_bind (wpAny_mono h₃ (fun x s₄ h₄ => wpAny_bind (wpAny_mono h₄ (fun _ s₅ h₅ => wpAny_pure (wpAny_pure ⟨rfl, h₅⟩)) fun _ _ h' => h')) fun _ _ h' => h'))

theorem start4_1 (h0 : codeAny (model prog w) A (.compLoop (lc4 elt t0 i0 t1 i1 t2 i2 t3 i3 f0 f1 f2 f3 scope pos) 1 it acc env) R s)
    (h : wpAny (model prog w) A (pyIter it) (fun it' s' => codeAny (model prog w) A (.compLoop (lc4 elt t0 i0 t1 i1 t2 i2 t3 i3 f0 f1 f2 f3 scope pos) 1 it' acc env) R s') (notedBy (model prog w) A env fun x s' => R (.error x) s') s) :
    codeAny (model prog w) A (.compStart (lc4 elt t0 i0 t1 i1 t2 i2 t3 i3 f0 f1 f2 f3 scope pos) 1 it acc env) R s := by
  refine codeAny_of_tree ?_
  show wpAny _ _ ((compStart (lc4 elt t0 i0 t1 i1 t2 i2 t3 i3 f0 f1 f2 f3 scope pos) 1 it acc env).onRaise (fun x => do noteFrame x env; standAt theWindowsPlace)) _ _ s
  refine wpAny_notedAt ?_
  unfold compStart
  show wpAny _ _ (ask >>= _) _ _ s
  refine wpAny_bind (wpAny_askSetting (wpAny_ite ?_))
  split
  · first
      | exact wpAny_bind (wpAny_pure (wpAny_pure (And.intro rfl h0)))
      | exact wpAny_pure (And.intro rfl h0)
  · first
      | exact wpAny_bind (wpAny_rule (wpAny_bind (wpAny_standAt (wpAny_bind (wpAny_mono h (fun it' s' h' => wpAny_pure (And.intro rfl h')) fun _ _ x => x)))))
      | (refine wpAny_bind (wpAny_rule ?_); show wpAny _ _ (standAt i1.pos >>= _) _ _ s; exact wpAny_bind (wpAny_standAt (wpAny_bind (wpAny_mono h (fun it' s' h' => wpAny_pure (And.intro rfl h')) fun _ _ x => x))))

theorem start4_2 (h0 : codeAny (model prog w) A (.compLoop (lc4 elt t0 i0 t1 i1 t2 i2 t3 i3 f0 f1 f2 f3 scope pos) 2 it acc env) R s)
    (h : wpAny (model prog w) A (pyIter it) (fun it' s' => codeAny (model prog w) A (.compLoop (lc4 elt t0 i0 t1 i1 t2 i2 t3 i3 f0 f1 f2 f3 scope pos) 2 it' acc env) R s') (notedBy (model prog w) A env fun x s' => R (.error x) s') s) :
    codeAny (model prog w) A (.compStart (lc4 elt t0 i0 t1 i1 t2 i2 t3 i3 f0 f1 f2 f3 scope pos) 2 it acc env) R s := by
  refine codeAny_of_tree ?_
  show wpAny _ _ ((compStart (lc4 elt t0 i0 t1 i1 t2 i2 t3 i3 f0 f1 f2 f3 scope pos) 2 it acc env).onRaise (fun x => do noteFrame x env; standAt theWindowsPlace)) _ _ s
  refine wpAny_notedAt ?_
  unfold compStart
  show wpAny _ _ (ask >>= _) _ _ s
  refine wpAny_bind (wpAny_askSetting (wpAny_ite ?_))
  split
  · first
      | exact wpAny_bind (wpAny_pure (wpAny_pure (And.intro rfl h0)))
      | exact wpAny_pure (And.intro rfl h0)
  · first
      | exact wpAny_bind (wpAny_rule (wpAny_bind (wpAny_standAt (wpAny_bind (wpAny_mono h (fun it' s' h' => wpAny_pure (And.intro rfl h')) fun _ _ x => x)))))
      | (refine wpAny_bind (wpAny_rule ?_); show wpAny _ _ (standAt i2.pos >>= _) _ _ s; exact wpAny_bind (wpAny_standAt (wpAny_bind (wpAny_mono h (fun it' s' h' => wpAny_pure (And.intro rfl h')) fun _ _ x => x))))

theorem start4_3 (h0 : codeAny (model prog w) A (.compLoop (lc4 elt t0 i0 t1 i1 t2 i2 t3 i3 f0 f1 f2 f3 scope pos) 3 it acc env) R s)
    (h : wpAny (model prog w) A (pyIter it) (fun it' s' => codeAny (model prog w) A (.compLoop (lc4 elt t0 i0 t1 i1 t2 i2 t3 i3 f0 f1 f2 f3 scope pos) 3 it' acc env) R s') (notedBy (model prog w) A env fun x s' => R (.error x) s') s) :
    codeAny (model prog w) A (.compStart (lc4 elt t0 i0 t1 i1 t2 i2 t3 i3 f0 f1 f2 f3 scope pos) 3 it acc env) R s := by
  refine codeAny_of_tree ?_
  show wpAny _ _ ((compStart (lc4 elt t0 i0 t1 i1 t2 i2 t3 i3 f0 f1 f2 f3 scope pos) 3 it acc env).onRaise (fun x => do noteFrame x env; standAt theWindowsPlace)) _ _ s
  refine wpAny_notedAt ?_
  unfold compStart
  show wpAny _ _ (ask >>= _) _ _ s
  refine wpAny_bind (wpAny_askSetting (wpAny_ite ?_))
  split
  · first
      | exact wpAny_bind (wpAny_pure (wpAny_pure (And.intro rfl h0)))
      | exact wpAny_pure (And.intro rfl h0)
  · first
      | exact wpAny_bind (wpAny_rule (wpAny_bind (wpAny_standAt (wpAny_bind (wpAny_mono h (fun it' s' h' => wpAny_pure (And.intro rfl h')) fun _ _ x => x)))))
      | (refine wpAny_bind (wpAny_rule ?_); show wpAny _ _ (standAt i3.pos >>= _) _ _ s; exact wpAny_bind (wpAny_standAt (wpAny_bind (wpAny_mono h (fun it' s' h' => wpAny_pure (And.intro rfl h')) fun _ _ x => x))))

end
end KT

namespace KT
open PySem PySem.Spec PyProof.Rows L2
abbrev TCl := Addr → L2.St → Hp → (Hp → Prop) → Prop
/-- an inner clause runs: t its reading, vs the slots that it may leave otherwise -/
def InnerOk (Y : Cx) (LC ij : Expr) (j : Nat) (vs : List Nat) (t : TCl) : Prop :=
  ∀ (D : Addr) (pins : List (Addr × Obj)) (s : Shared) (σ : L2.St) (H : Hp) (Nx : Hp → Prop), Inv Y pins σ H s → t D σ H Nx →
    wpAny (model Y.prog Y.w) Y.A (eval ij Y.env) (fun xv s1 => wpAny (model Y.prog Y.w) Y.A (pyIter xv) (fun itv s2 => codeAny (model Y.prog Y.w) Y.A (.compStart LC j itv (.ref D) Y.env)
      (fun r s' => match r with
        | .ok _ => ∃ σ' H', Inv Y pins σ' H' s' ∧ σ.length = σ'.length ∧ (∀ (i : Nat) (v : V), (wipe σ vs)[i]? = some (some v) → σ'[i]? = some (some v)) ∧ Nx H'
        | .error _ => False) s2) (fun _ _ => False) s1) (fun _ _ => False) s
/-- a clause's own loop, what a turn does told by BODY -/
def tClause (wi : TI) (g : TG) (tt : TT) (vs : List Nat) (BODY : Addr → L2.St → Hp → (Hp → Prop) → Prop) : TCl := fun D σ H Nx => wi σ H fun J H4 => ∃ W1 : Nat → Nat → Hp → Prop, (∃ m, W1 0 m H4) ∧ ∀ j k H, W1 j k H →
  (J.stop j H ∧ Nx H) ∨ (J.go j H ∧ ∃ Nx1 : Hp → Prop, (∀ H', Nx1 H' → ∃ k', k' < k ∧ W1 (j + 1) k' H') ∧ ∀ x H', J.yld j H x H' → g x (wipe σ vs) H' fun σ3 H5 => wipe σ3 vs = wipe σ vs ∧ tt σ3 H5 fun b H6 =>
    if b = true then BODY D σ3 H6 Nx1 else Nx1 H6)
def bElt (te : TE) : TCl := fun D σ H Nx => te σ H fun y H7 => ∃ acc, H7 D = some (.lst acc) ∧ acc.length < sizeLine ∧ Nx (upd H7 D (.lst (acc ++ [y])))
section
variable {Y : Cx} {elt t0 i0 t1 i1 t2 i2 t3 i3 : Expr} {f0 f1 f2 f3 : List Expr} {scope : Scope} {pos : Pos} {vs vsin : List Nat} {wi : TI} {g : TG} {tt : TT} {te : TE} {tin : TCl}

theorem inner3 (hc : Y.calm = true) (hxe : Y.xe = fun _ _ => False) (pi1 : PI Y t3 i3 wi) (pg : PG Y t3 g) (pt : PTs Y f3 tt) (pe : PE Y elt te) : InnerOk Y (lc4 elt t0 i0 t1 i1 t2 i2 t3 i3 f0 f1 f2 f3 scope pos) i3 3 vs (tClause wi g tt vs (bElt te)) := by
  intro D pins s9 σ8 H9 Nx I9 q9
  have z := pi1.run pins s9 σ8 H9 _ I9 q9
  rw [hxe] at z
  refine thnF z fun xv s10 hx => thnF hx fun itv s11 h11 => ?_
  obtain ⟨it1, fp1, tn1, J1, H11, e1, I11, T1, st11, f11, W1, ⟨m1, w1⟩, turn1⟩ := h11
  subst e1
  have stat1 : ∀ {H' : Hp}, (∀ b ∈ fp1, H' b = none) → ∀ b ∈ fp1, FpOk Y pins H' b := fun hn b hb => ⟨hn b hb, (f11 b hb).2⟩
  have loop1 : codeAny (model Y.prog Y.w) Y.A (.compLoop (lc4 elt t0 i0 t1 i1 t2 i2 t3 i3 f0 f1 f2 f3 scope pos) 3 (.ref it1) (.ref D) Y.env) (fun r s' => match r with
        | .ok _ => ∃ σ' H', Inv Y pins σ' H' s' ∧ σ8.length = σ'.length ∧ (∀ (i : Nat) (v : V), (wipe σ8 vs)[i]? = some (some v) → σ'[i]? = some (some v)) ∧ Nx H'
        | .error _ => False) s11 := by
    refine loop4_3 (fun k s' => ∃ j H', Inv Y pins (wipe σ8 vs) H' s' ∧ tn1 j s'.heap ∧ (∀ b ∈ fp1, H' b = none) ∧ W1 j k H') ?_ m1 ⟨0, H11, I11.weak (wipe_length _ _) (fun j v e => (wipe_some e).1), st11, fun b hb => (f11 b hb).1, w1⟩
    rintro k s12 ⟨j, H12, I12, st12, n12, w12⟩
    rcases turn1 j k H12 w12 with ⟨stop1, nx1⟩ | ⟨go1, Nx1, hNx1, step1⟩
    · refine thnF (T1.done Y rfl rfl rfl hc j _ s12 (wipe σ8 vs) H12 (fun _ _ => False) I12 (stat1 n12) st12 stop1) fun r s13 ⟨hr, I13⟩ => ?_
      subst hr
      exact ⟨wipe σ8 vs, H12, I13, (wipe_length σ8 vs).symm, fun i v e => e, nx1⟩
    · refine thnF (T1.item Y rfl rfl rfl hc j _ s12 (wipe σ8 vs) H12 (fun _ _ => False) I12 (stat1 n12) st12 go1) fun r s13 ⟨u1, hr, h13⟩ => ?_
      subst hr
      refine thnF h13 fun _ s14 ⟨x1, H14, I14, r14, y14, st14, n14⟩ => ?_
      have I14' := I14.pinned (stat1 n14) (T1.obj _ _ st14)
      have pgr := pg.run _ s14 (wipe σ8 vs) H14 x1 u1 _ I14' r14 (step1 x1 H14 y14)
      rw [hxe] at pgr
      refine thnF pgr fun _ s15 ⟨σ15, H15, I15, hw15, q15⟩ => ?_
      have ptr := pt.run _ s15 σ15 H15 _ I15 q15
      rw [hxe] at ptr
      refine thnF ptr fun b1 s16 ⟨H16, I16, q16⟩ => ?_
      have fin1 : ∀ {σ' : L2.St} {s' : Shared} {H' : Hp}, Inv Y (pins ++ pinsAt fp1 s14.heap) σ' H' s' → (wipe σ8 vs).length = σ'.length → (∀ (i : Nat) (v : V), (wipe σ8 vs)[i]? = some (some v) → σ'[i]? = some (some v)) → Nx1 H' →
          ∃ m, m < k ∧ ∃ j H', Inv Y pins (wipe σ8 vs) H' s' ∧ tn1 j s'.heap ∧ (∀ b ∈ fp1, H' b = none) ∧ W1 j m H' := fun {σ' s' H'} I' hl hk nx => by
        obtain ⟨m', hm, w'⟩ := hNx1 H' nx
        have pin' : ∀ b ∈ fp1, ∀ o, s14.heap.get? b = some o → s'.heap.get? b = some o ∧ H' b = none := fun b hb o e =>
          let z := I'.pin (b, o) (List.mem_append_right _ (List.mem_append_right _ (mem_pinsAt hb e)))
          ⟨z.1, z.2.1⟩
        refine ⟨m', hm, j + 1, H', I'.unpinned.weak hl hk, T1.keep _ _ _ st14 fun b hb o e => (pin' b hb o e).1, fun b hb => ?_, w'⟩
        obtain ⟨o, e, _⟩ := T1.obj _ _ st14 b hb
        exact (pin' b hb o e).2
      cases b1 with
      | false =>
        simp only [Bool.false_eq_true, if_false] at q16 ⊢
        exact fin1 I16 (by rw [← hw15, wipe_length]) (fun i v e => by rw [← hw15] at e; exact (wipe_some e).1) q16
      | true =>
        simp only [if_true] at q16 ⊢
        have per := pe.run _ s16 σ15 H16 _ I16 q16
        rw [hxe] at per
        refine thnF per fun z s17 ⟨yv, H17, I17, r17, acc, hD17, hz17, nx⟩ => ?_
        exact app_ok (X := Y) I17 hD17 hz17 r17 fun s18 I18 => fin1 I18 (by rw [← hw15, wipe_length]) (fun i v e => by rw [← hw15] at e; exact (wipe_some e).1) nx
  exact start4_3 loop1 (T1.self Y.A 0 _ _ _ st11 loop1)

theorem inner2 (hc : Y.calm = true) (hxe : Y.xe = fun _ _ => False) (pi1 : PI Y t2 i2 wi) (pg : PG Y t2 g) (pt : PTs Y f2 tt) (hv : ∀ i ∈ vsin, i ∈ vs) (hs : ∀ x, foldedSetIterable i3 Y.env x = pure x) (hin : InnerOk Y (lc4 elt t0 i0 t1 i1 t2 i2 t3 i3 f0 f1 f2 f3 scope pos) i3 3 vsin tin) : InnerOk Y (lc4 elt t0 i0 t1 i1 t2 i2 t3 i3 f0 f1 f2 f3 scope pos) i2 2 vs (tClause wi g tt vs tin) := by
  intro D pins s9 σ8 H9 Nx I9 q9
  have z := pi1.run pins s9 σ8 H9 _ I9 q9
  rw [hxe] at z
  refine thnF z fun xv s10 hx => thnF hx fun itv s11 h11 => ?_
  obtain ⟨it1, fp1, tn1, J1, H11, e1, I11, T1, st11, f11, W1, ⟨m1, w1⟩, turn1⟩ := h11
  subst e1
  have stat1 : ∀ {H' : Hp}, (∀ b ∈ fp1, H' b = none) → ∀ b ∈ fp1, FpOk Y pins H' b := fun hn b hb => ⟨hn b hb, (f11 b hb).2⟩
  have loop1 : codeAny (model Y.prog Y.w) Y.A (.compLoop (lc4 elt t0 i0 t1 i1 t2 i2 t3 i3 f0 f1 f2 f3 scope pos) 2 (.ref it1) (.ref D) Y.env) (fun r s' => match r with
        | .ok _ => ∃ σ' H', Inv Y pins σ' H' s' ∧ σ8.length = σ'.length ∧ (∀ (i : Nat) (v : V), (wipe σ8 vs)[i]? = some (some v) → σ'[i]? = some (some v)) ∧ Nx H'
        | .error _ => False) s11 := by
    refine loop4_2 hs (fun k s' => ∃ j H', Inv Y pins (wipe σ8 vs) H' s' ∧ tn1 j s'.heap ∧ (∀ b ∈ fp1, H' b = none) ∧ W1 j k H') ?_ m1 ⟨0, H11, I11.weak (wipe_length _ _) (fun j v e => (wipe_some e).1), st11, fun b hb => (f11 b hb).1, w1⟩
    rintro k s12 ⟨j, H12, I12, st12, n12, w12⟩
    rcases turn1 j k H12 w12 with ⟨stop1, nx1⟩ | ⟨go1, Nx1, hNx1, step1⟩
    · refine thnF (T1.done Y rfl rfl rfl hc j _ s12 (wipe σ8 vs) H12 (fun _ _ => False) I12 (stat1 n12) st12 stop1) fun r s13 ⟨hr, I13⟩ => ?_
      subst hr
      exact ⟨wipe σ8 vs, H12, I13, (wipe_length σ8 vs).symm, fun i v e => e, nx1⟩
    · refine thnF (T1.item Y rfl rfl rfl hc j _ s12 (wipe σ8 vs) H12 (fun _ _ => False) I12 (stat1 n12) st12 go1) fun r s13 ⟨u1, hr, h13⟩ => ?_
      subst hr
      refine thnF h13 fun _ s14 ⟨x1, H14, I14, r14, y14, st14, n14⟩ => ?_
      have I14' := I14.pinned (stat1 n14) (T1.obj _ _ st14)
      have pgr := pg.run _ s14 (wipe σ8 vs) H14 x1 u1 _ I14' r14 (step1 x1 H14 y14)
      rw [hxe] at pgr
      refine thnF pgr fun _ s15 ⟨σ15, H15, I15, hw15, q15⟩ => ?_
      have ptr := pt.run _ s15 σ15 H15 _ I15 q15
      rw [hxe] at ptr
      refine thnF ptr fun b1 s16 ⟨H16, I16, q16⟩ => ?_
      have fin1 : ∀ {σ' : L2.St} {s' : Shared} {H' : Hp}, Inv Y (pins ++ pinsAt fp1 s14.heap) σ' H' s' → (wipe σ8 vs).length = σ'.length → (∀ (i : Nat) (v : V), (wipe σ8 vs)[i]? = some (some v) → σ'[i]? = some (some v)) → Nx1 H' →
          ∃ m, m < k ∧ ∃ j H', Inv Y pins (wipe σ8 vs) H' s' ∧ tn1 j s'.heap ∧ (∀ b ∈ fp1, H' b = none) ∧ W1 j m H' := fun {σ' s' H'} I' hl hk nx => by
        obtain ⟨m', hm, w'⟩ := hNx1 H' nx
        have pin' : ∀ b ∈ fp1, ∀ o, s14.heap.get? b = some o → s'.heap.get? b = some o ∧ H' b = none := fun b hb o e =>
          let z := I'.pin (b, o) (List.mem_append_right _ (List.mem_append_right _ (mem_pinsAt hb e)))
          ⟨z.1, z.2.1⟩
        refine ⟨m', hm, j + 1, H', I'.unpinned.weak hl hk, T1.keep _ _ _ st14 fun b hb o e => (pin' b hb o e).1, fun b hb => ?_, w'⟩
        obtain ⟨o, e, _⟩ := T1.obj _ _ st14 b hb
        exact (pin' b hb o e).2
      cases b1 with
      | false =>
        simp only [Bool.false_eq_true, if_false] at q16 ⊢
        exact fin1 I16 (by rw [← hw15, wipe_length]) (fun i v e => by rw [← hw15] at e; exact (wipe_some e).1) q16
      | true =>
        simp only [if_true] at q16 ⊢
        refine thnF (hin D _ s16 σ15 H16 Nx1 I16 q16) fun xv s17 hx => thnF hx fun itv s18 h18 => codeAny_mono h18 fun r s19 hr => ?_
        match r, hr with
        | .error _, hr => exact hr.elim
        | .ok _, ⟨σ', H', I19, hl, hk, nx⟩ =>
          refine fin1 I19 (by rw [← hl, ← wipe_length σ15 vs, hw15]) (fun i v e => hk i v ?_) nx
          rw [← hw15] at e
          obtain ⟨e1, e2⟩ := wipe_some e
          rw [wipe_out fun z => e2 (hv i z)]
          exact e1
  exact start4_2 loop1 (T1.self Y.A 0 _ _ _ st11 loop1)

theorem inner1 (hc : Y.calm = true) (hxe : Y.xe = fun _ _ => False) (pi1 : PI Y t1 i1 wi) (pg : PG Y t1 g) (pt : PTs Y f1 tt) (hv : ∀ i ∈ vsin, i ∈ vs) (hs : ∀ x, foldedSetIterable i2 Y.env x = pure x) (hin : InnerOk Y (lc4 elt t0 i0 t1 i1 t2 i2 t3 i3 f0 f1 f2 f3 scope pos) i2 2 vsin tin) : InnerOk Y (lc4 elt t0 i0 t1 i1 t2 i2 t3 i3 f0 f1 f2 f3 scope pos) i1 1 vs (tClause wi g tt vs tin) := by
  intro D pins s9 σ8 H9 Nx I9 q9
  have z := pi1.run pins s9 σ8 H9 _ I9 q9
  rw [hxe] at z
  refine thnF z fun xv s10 hx => thnF hx fun itv s11 h11 => ?_
  obtain ⟨it1, fp1, tn1, J1, H11, e1, I11, T1, st11, f11, W1, ⟨m1, w1⟩, turn1⟩ := h11
  subst e1
  have stat1 : ∀ {H' : Hp}, (∀ b ∈ fp1, H' b = none) → ∀ b ∈ fp1, FpOk Y pins H' b := fun hn b hb => ⟨hn b hb, (f11 b hb).2⟩
  have loop1 : codeAny (model Y.prog Y.w) Y.A (.compLoop (lc4 elt t0 i0 t1 i1 t2 i2 t3 i3 f0 f1 f2 f3 scope pos) 1 (.ref it1) (.ref D) Y.env) (fun r s' => match r with
        | .ok _ => ∃ σ' H', Inv Y pins σ' H' s' ∧ σ8.length = σ'.length ∧ (∀ (i : Nat) (v : V), (wipe σ8 vs)[i]? = some (some v) → σ'[i]? = some (some v)) ∧ Nx H'
        | .error _ => False) s11 := by
    refine loop4_1 hs (fun k s' => ∃ j H', Inv Y pins (wipe σ8 vs) H' s' ∧ tn1 j s'.heap ∧ (∀ b ∈ fp1, H' b = none) ∧ W1 j k H') ?_ m1 ⟨0, H11, I11.weak (wipe_length _ _) (fun j v e => (wipe_some e).1), st11, fun b hb => (f11 b hb).1, w1⟩
    rintro k s12 ⟨j, H12, I12, st12, n12, w12⟩
    rcases turn1 j k H12 w12 with ⟨stop1, nx1⟩ | ⟨go1, Nx1, hNx1, step1⟩
    · refine thnF (T1.done Y rfl rfl rfl hc j _ s12 (wipe σ8 vs) H12 (fun _ _ => False) I12 (stat1 n12) st12 stop1) fun r s13 ⟨hr, I13⟩ => ?_
      subst hr
      exact ⟨wipe σ8 vs, H12, I13, (wipe_length σ8 vs).symm, fun i v e => e, nx1⟩
    · refine thnF (T1.item Y rfl rfl rfl hc j _ s12 (wipe σ8 vs) H12 (fun _ _ => False) I12 (stat1 n12) st12 go1) fun r s13 ⟨u1, hr, h13⟩ => ?_
      subst hr
      refine thnF h13 fun _ s14 ⟨x1, H14, I14, r14, y14, st14, n14⟩ => ?_
      have I14' := I14.pinned (stat1 n14) (T1.obj _ _ st14)
      have pgr := pg.run _ s14 (wipe σ8 vs) H14 x1 u1 _ I14' r14 (step1 x1 H14 y14)
      rw [hxe] at pgr
      refine thnF pgr fun _ s15 ⟨σ15, H15, I15, hw15, q15⟩ => ?_
      have ptr := pt.run _ s15 σ15 H15 _ I15 q15
      rw [hxe] at ptr
      refine thnF ptr fun b1 s16 ⟨H16, I16, q16⟩ => ?_
      have fin1 : ∀ {σ' : L2.St} {s' : Shared} {H' : Hp}, Inv Y (pins ++ pinsAt fp1 s14.heap) σ' H' s' → (wipe σ8 vs).length = σ'.length → (∀ (i : Nat) (v : V), (wipe σ8 vs)[i]? = some (some v) → σ'[i]? = some (some v)) → Nx1 H' →
          ∃ m, m < k ∧ ∃ j H', Inv Y pins (wipe σ8 vs) H' s' ∧ tn1 j s'.heap ∧ (∀ b ∈ fp1, H' b = none) ∧ W1 j m H' := fun {σ' s' H'} I' hl hk nx => by
        obtain ⟨m', hm, w'⟩ := hNx1 H' nx
        have pin' : ∀ b ∈ fp1, ∀ o, s14.heap.get? b = some o → s'.heap.get? b = some o ∧ H' b = none := fun b hb o e =>
          let z := I'.pin (b, o) (List.mem_append_right _ (List.mem_append_right _ (mem_pinsAt hb e)))
          ⟨z.1, z.2.1⟩
        refine ⟨m', hm, j + 1, H', I'.unpinned.weak hl hk, T1.keep _ _ _ st14 fun b hb o e => (pin' b hb o e).1, fun b hb => ?_, w'⟩
        obtain ⟨o, e, _⟩ := T1.obj _ _ st14 b hb
        exact (pin' b hb o e).2
      cases b1 with
      | false =>
        simp only [Bool.false_eq_true, if_false] at q16 ⊢
        exact fin1 I16 (by rw [← hw15, wipe_length]) (fun i v e => by rw [← hw15] at e; exact (wipe_some e).1) q16
      | true =>
        simp only [if_true] at q16 ⊢
        refine thnF (hin D _ s16 σ15 H16 Nx1 I16 q16) fun xv s17 hx => thnF hx fun itv s18 h18 => codeAny_mono h18 fun r s19 hr => ?_
        match r, hr with
        | .error _, hr => exact hr.elim
        | .ok _, ⟨σ', H', I19, hl, hk, nx⟩ =>
          refine fin1 I19 (by rw [← hl, ← wipe_length σ15 vs, hw15]) (fun i v e => hk i v ?_) nx
          rw [← hw15] at e
          obtain ⟨e1, e2⟩ := wipe_some e
          rw [wipe_out fun z => e2 (hv i z)]
          exact e1
  exact start4_1 loop1 (T1.self Y.A 0 _ _ _ st11 loop1)

end
end KT

namespace U6
open PySem PySem.Spec PyProof.Rows L2 NdefX LamX KT
open PySem.W (Frag)
theorem d_size (t : Ty) : t.d.size = 3 * t.signs + 1 := by
  induction t with
  | w z => simp [Ty.d, D.size, Ty.signs]
  | n g a b i j => simp only [Ty.d, D.size, sizeAll, Ty.signs, i, j]; omega
def ndsAll : List Ty → List Ty
  | [] => []
  | t :: r => t.nds ++ ndsAll r
theorem Ty.nds_len (t : Ty) : t.nds.length = t.size := by
  induction t with
  | w _ => rfl
  | n g a b i j => simp only [Ty.nds, Ty.size, List.length_cons, List.length_append]; omega
theorem ndsAll_len : ∀ ts : List Ty, (ndsAll ts).length = sizes ts
  | [] => rfl
  | t :: r => by simp only [ndsAll, sizes, List.length_append, ndsAll_len r, Ty.nds_len]
theorem nds_ok : ∀ {t : Ty}, t.wok → ∀ u ∈ t.nds, u.wok
  | .w y, h, u, hu => by
    simp only [Ty.nds, List.mem_cons, List.not_mem_nil, or_false] at hu
    rw [hu]; exact h
  | .n g a b, h, u, hu => by
    simp only [Ty.nds, List.mem_cons, List.mem_append] at hu
    rcases hu with rfl | hu | hu
    · exact h
    · exact nds_ok h.2 u hu
    · exact nds_ok h.1 u hu
theorem tys_of_ds {H : Hp} : ∀ {ts : List Ty} {us : List V}, DsAt H us (ts.map Ty.d) → (∀ t ∈ ts, t.wok) → Tys H us ts
  | [], _, .nil, _ => .nil
  | t :: ts, _, .cons h r, hw => .cons (h.ty (t.ty_d (hw t List.mem_cons_self))) (tys_of_ds r fun u hu => hw u (List.mem_cons_of_mem _ hu))
/-- the turns of a walk within a comprehension, whatever a turn does -/
theorem lc_gen {J : It} {n : Nat} {G : Hp → Prop} {Y : Nat → Hp → V → Hp → Prop} (w : Walk J n G Y) {BODY : (Hp → Prop) → V → Hp → Prop} {H0 : Hp} {Qd : Hp → Prop} (Pv : Nat → Hp → Prop) (h0 : Pv 0 H0) (hG : ∀ i H, i ≤ n → Pv i H → G H)
    (hs : ∀ i x H H', i < n → Pv i H → Y i H x H' → BODY (Pv (i + 1)) x H') (hd : ∀ H, Pv n H → Qd H) :
    ∃ W : Nat → Nat → Hp → Prop, (∃ m, W 0 m H0) ∧ ∀ i m H, W i m H → (J.stop i H ∧ Qd H) ∨ (J.go i H ∧ ∃ Nx : Hp → Prop, (∀ H', Nx H' → ∃ m', m' < m ∧ W (i + 1) m' H') ∧ ∀ x H', J.yld i H x H' → BODY Nx x H') := by
  refine ⟨fun i m H => m = n - i ∧ i ≤ n ∧ Pv i H, ⟨n, by simp, Nat.zero_le _, h0⟩, ?_⟩
  rintro i m H ⟨rfl, hi, p⟩
  have q := hG i H hi p
  by_cases hlt : i < n
  · exact .inr ⟨w.goes i H hlt q, Pv (i + 1), fun H' p' => ⟨n - (i + 1), by omega, rfl, hlt, p'⟩, fun x H' y => hs i x H H' hlt p (w.yields i H x H' hlt q y)⟩
  · have e : i = n := by omega
    subst e
    exact .inl ⟨w.stops H q, hd H p⟩
/-- the words of the plain nodes -/
def leafs : List Ty → List Str
  | [] => []
  | .w z :: r => z :: leafs r
  | .n _ _ _ :: r => leafs r
theorem leafs_app (l r : List Ty) : leafs (l ++ r) = leafs l ++ leafs r := by
  induction l with
  | nil => rfl
  | cons t l ih => cases t <;> simp [leafs, ih]
theorem leafs_nodes (t : Ty) (z : Str) : z ∈ leafs t.nds ↔ z ∈ t.words := by
  induction t with
  | w y => simp [Ty.nds, leafs, Ty.words]
  | n g a b i j =>
    simp only [Ty.nds, leafs, leafs_app, Ty.words, List.mem_append, i, j]
    exact Or.comm
theorem leafs_len (l : List Ty) : (leafs l).length ≤ l.length := by
  induction l with
  | nil => exact Nat.le_refl _
  | cons t l ih => cases t <;> simp [leafs] <;> omega
theorem sizes_take : ∀ (ts : List Ty) (i : Nat) (t : Ty), ts[i]? = some t → sizes (ts.take i) + t.size ≤ sizes ts
  | [], i, t, h => by simp at h
  | u :: ts, 0, t, h => by
    have e := Option.some.inj (show some u = some t from h)
    subst e
    simp [sizes]
  | u :: ts, i + 1, t, h => by
    have q := sizes_take ts i t (by simpa using h)
    simp only [List.take_succ_cons, sizes]
    omega
theorem ndsAll_snoc : ∀ (ts : List Ty) (i : Nat) (t : Ty), ts[i]? = some t → ndsAll (ts.take (i + 1)) = ndsAll (ts.take i) ++ t.nds
  | [], i, t, h => by simp at h
  | u :: ts, 0, t, h => by
    have e := Option.some.inj (show some u = some t from h)
    subst e
    simp [ndsAll]
  | u :: ts, i + 1, t, h => by
    have q := ndsAll_snoc ts i t (by simpa using h)
    rw [List.take_succ_cons, List.take_succ_cons, ndsAll, ndsAll, q, List.append_assoc]
theorem leafs_snoc (l : List Ty) (j : Nat) (u : Ty) (h : l[j]? = some u) : leafs (l.take (j + 1)) = leafs (l.take j) ++ leafs [u] := by
  rw [List.take_add_one, h, leafs_app]
  rfl
theorem leafs_all : ∀ (ts : List Ty) (z : Str), z ∈ leafs (ndsAll ts) ↔ ∃ t ∈ ts, z ∈ t.words
  | [], z => by simp [ndsAll, leafs]
  | t :: ts, z => by
    rw [ndsAll, leafs_app, List.mem_append, leafs_nodes, leafs_all ts z]
    simp
/-- the ascending list of the words in some types -/
structure PlainsOf (ys : List Str) (ts : List Ty) : Prop where
  so : sortedS ys = true
  nd : ys.Nodup
  mem : ∀ z, z ∈ ys ↔ ∃ t ∈ ts, z ∈ t.words
section
variable {P : Program} {w : World} {K : Frag} {mg : Str → Option Value} {base : Heap}
def spKindsIn : Sp := fun vs H Q _ => ∃ v t, vs = [v] ∧ TyAt H v t ∧ t.size ≤ 4000 ∧ ∀ (L : Addr) (us : List V) (H' : Hp), Same H H' → H L = none → H' L = some (.lst us) → Tys H' us t.nds → Q (.ref L) H'
theorem ok_kindsIn {f fn fp : Addr} {fd fdn fdp : FuncData} (T : Top K mg "kinds_in" sKindsIn pKindsIn f fd) (TN : Top K mg "nodes_in" sNodesIn pNodesIn fn fdn) (TP : Top K mg "_parts_of" sPartsOf pPartsOf fp fdp) (B : Blt mg) : FnOk P w K mg base CX0 4 f fd pKindsIn spKindsIn := by
  have GN : FnOk P w K mg base CX0 3 fn fdn pNodesIn (spNodesG kn IsTy fp) := ok_nodesG treeK TN TP (ok_partsOf TP B)
  refine T.F.ok scKindsIn (fun vs H Q E h => ?_) (fun cdv A outer s H vs Q E hr h => ?_)
  · obtain ⟨_, _, rfl, _⟩ := h
    rfl
  · obtain ⟨v, t, rfl, ht, hz, k⟩ := h
    refine ⟨_, pss_one (ps_ret (pe_call GN hr rfl TN.g TN.F.kp TN.b .nil pass0 (pa_cons (pv 0) (pa_cons (pe_glob (v := .ref fp) rfl TP.g rfl) pa_nil)))), ?_⟩
    refine ⟨v, rfl, v, t.d, rfl, ht.d, ⟨t, ht.wok, rfl⟩, ?_, fun L us H' s' nL eL hD => k L us H' s' nL eL ?_⟩
    · rw [d_size]; have := t.size_signs; omega
    · rw [kn_d ht.wok] at hD
      exact tys_of_ds hD (nds_ok ht.wok)
def spPlainsIn : Sp := fun vs H Q _ => ∃ (L : Addr) (us : List V) (ts : List Ty), vs = [.ref L] ∧ H L = some (.lst us) ∧ Tys H us ts ∧ sizes ts ≤ 4000 ∧ ∀ (R : Addr) (ys : List Str) (H' : Hp), PlainsOf ys ts → Same H H' → H R = none → H' R = some (.lst (ys.map V.str)) → Q (.ref R) H'
theorem ok_plainsIn {f fk : Addr} {fd fdk : FuncData} (T : Top K mg "plains_in" sPlainsIn pPlainsIn f fd) (TK_ : Top K mg "kinds_in" sKindsIn pKindsIn fk fdk) (GK : FnOk P w K mg base CX0 4 fk fdk pKindsIn spKindsIn) (B : Blt mg) : FnOk P w K mg base L2.CX0 5 f fd pPlainsIn spPlainsIn := by
  refine T.F.ok scPlainsIn (fun vs H Q E h => ?_) (fun cdv A outer s H vs Q E hr h => ?_)
  · obtain ⟨_, _, _, rfl, _⟩ := h
    rfl
  · obtain ⟨L, us, ts, rfl, eL, hT, hz, k⟩ := h
    refine ⟨_, pss_one (ps_ret (pe_callB (cr_sortedG rfl) (by rfl) B.sorted (by decide +kernel) (pa_cons (pe_callTy (cr_setG rfl) (by rfl) B.set (by decide +kernel) (pa_cons
      (pe_lc2 (own := [("kind", 1), ("part", 2)]) (vs1 := [2]) (g := gName 1) (g1 := gName 2) (tt := tYes) (wi1 := iList K (tCall spKindsIn [] L2.E0 (tCons (tVar 1) tNil))) rfl scPlainsIn.nd (pi_list (pv 0)) (blkOk_by (N := nPlainsIn) (sc := defScope sPlainsIn) (by decide +kernel)) (by decide)
        (fun _ _ _ _ _ => pg_name (i := 1) scPlainsIn.nd rfl (Or.inl rfl)) (fun _ _ _ _ _ => pts_nil) (fun _ _ _ _ _ => pi_list (pe_call GK hr rfl TK_.g TK_.F.kp TK_.b .nil pass0 (pa_cons (pv 1) pa_nil))) (fun _ _ _ _ _ => pg_name (i := 2) scPlainsIn.nd rfl (Or.inl rfl))
        (fun _ _ _ _ _ => pts_one (pt_val (pe_callB (show CallR _ (.builtin "isinstance") (rIsi K) from call_isi) (by rfl) B.isi (by decide +kernel) (pa_cons (pv 2) (pa_cons (pe_bltn (v := .ty "str") (by rfl) B.str_ (by decide +kernel) rfl) pa_nil))))) (fun _ _ _ _ _ => pv 2)) pa_nil)) pa_nil))), ?_⟩
    refine ⟨_, rfl, L, rfl, ⟨_, SqL.of eL⟩, fun D hD => ?_⟩
    have lT := hT.length
    have lz := sizes_len ts
    have hsz : ∀ (i : Nat) (t : Ty), ts[i]? = some t → (ndsAll (ts.take i)).length + t.size ≤ 4000 := by
      intro i t h
      rw [ndsAll_len]
      have := sizes_take ts i t h
      omega
    refine lc_gen (walk_list (K := K) (xs := us)) (fun i H' => Same H H' ∧ H' D = some (.lst ((leafs (ndsAll (ts.take i))).map V.str))) ⟨same_upd hD, upd_same⟩ (fun i H' _ q => SqL.of (q.1 _ _ eL)) ?_ ?_
    · rintro i x H1 H2 hi ⟨s1, eD⟩ ⟨rfl, hx⟩
      obtain ⟨t, ht, hxt⟩ := hT.at_ hx
      have hxt := hxt.mono (TK.of_same s1)
      have hz2 := hsz i t ht
      refine ⟨rfl, x, rfl, x, t, rfl, hxt, by omega, fun L2 us2 H3 s3 nL2 eL2 hT2 => ⟨L2, rfl, ⟨_, SqL.of eL2⟩, ?_⟩⟩
      have lu := hT2.length
      refine lc_gen (walk_list (K := K) (xs := us2)) (fun j H' => Same H H' ∧ H' L2 = some (.lst us2) ∧ Tys H' us2 t.nds ∧ H' D = some (.lst ((leafs (ndsAll (ts.take i)) ++ leafs (t.nds.take j)).map V.str))) ⟨s1.trans s3, eL2, hT2, by rw [List.take_zero]; simp [leafs]; exact s3 _ _ eD⟩ (fun j H' _ q => SqL.of q.2.1) ?_ ?_
      · rintro j y H4 H5 hj ⟨s4, e4, hT4, eD4⟩ ⟨rfl, hy⟩
        obtain ⟨u, hu, hyu⟩ := hT4.at_ hy
        have nLD : L2 ≠ D := by
          intro e
          rw [e, s3 _ _ eD] at eL2
          have nn : H2 D = none := by rw [← e]; exact nL2
          rw [eD] at nn
          cases nn
        have lf := leafs_len (ndsAll (ts.take i))
        have lf2 := leafs_len (t.nds.take j)
        have ltk : (t.nds.take j).length ≤ t.size := by rw [List.length_take, Ty.nds_len]; omega
        have snoc := leafs_snoc t.nds j u hu
        refine ⟨rfl, y, rfl, y, .ty "str", ?_⟩
        cases hyu with
        | @w z h =>
          refine ⟨_, _, true, rfl, .ty "str", .base (.str z), kit_ty (by decide +kernel), true, rfl, iteT ⟨_, rfl, _, eD4, by rw [List.length_map, List.length_append, sizeLine_eq]; omega, ?_⟩⟩
          refine ⟨same_over s4 hD, by rw [upd_ne nLD]; exact e4, hT4.mono (TK.upd_lst eD4), ?_⟩
          rw [upd_same, snoc, ← List.append_assoc, List.map_append, List.map_append, List.map_append]
          rfl
        | @n p g x1 x2 a b e h1 h2 =>
          refine ⟨_, _, false, rfl, .ty "str", .base (.tup e), kit_ty (by decide +kernel), false, rfl, iteF ⟨s4, e4, hT4, ?_⟩⟩
          rw [snoc, show leafs [Ty.n g a b] = [] from rfl, List.append_nil]
          exact eD4
      · rintro H4 ⟨s4, e4, hT4, eD4⟩
        refine ⟨s4, ?_⟩
        rw [ndsAll_snoc ts i t ht, leafs_app]
        rw [lu, List.take_length] at eD4
        exact eD4
    · rintro H1 ⟨s1, eD⟩
      rw [lT, List.take_length] at eD
      have lf := leafs_len (ndsAll ts)
      rw [ndsAll_len] at lf
      refine ⟨D, _, rfl, SqL.of eD, by omega, fun p hp => ⟨p, _, rfl, upd_same, fun ys q so nd mem hq => ?_⟩⟩
      have sp : Same H (upd H1 p (SetGO P w p (leafs (ndsAll ts)))) := s1.trans (same_upd hp)
      exact k q ys _ ⟨so, nd, fun z => (mem z).trans (leafs_all ts z)⟩ (sp.trans (same_upd hq)) (sp.free hq) upd_same
def spCheckMap : Sp := fun vs H Q _ => ∃ (d L : Addr) (kvs : List (Key × V)) (ys : List Str), vs = [.ref d, .ref L] ∧ H d = some (.dK kvs) ∧ H L = some (.lst (ys.map V.str)) ∧ kvs.length = ys.length ∧ ys.length ≤ 5000 ∧
  (∀ z ∈ ys, ∃ x t, valV kvs (Sum.inr z) = some x ∧ TyAt H x t ∧ t.size ≤ 1000000) ∧ ∀ H', Same H H' → Q .non H'
theorem ok_checkMap {f fi : Addr} {fd fdi : FuncData} (T : Top K mg "check_map" sCheckMap pCheckMap f fd) (TI : Top K mg "is_kind" sIsKind pIsKind fi fdi) (GI : FnOk P w K mg base CX0 2 fi fdi pIsKind spIsKind) (B : Blt mg) : FnOk P w K mg base L2.CX0 3 f fd pCheckMap spCheckMap := by
  refine T.F.ok scCheckMap (fun vs H Q E h => ?_) (fun cdv A outer s H vs Q E hr h => ?_)
  · obtain ⟨_, _, _, _, rfl, _⟩ := h
    rfl
  · obtain ⟨d, L, kvs, ys, rfl, hd, eL, hl, hz, hm, k⟩ := h
    have hu := hu_of hr
    refine ⟨_, (pss_cons (ps_if (PW.pt (pw_or (pt_not (pt_val (pe_callB call_isi (by rfl) B.isi (by decide +kernel) (pa_cons (pv 0) (pa_cons (pe_bltn (v := .ty "dict") (by rfl) B.dict (by decide +kernel) rfl) pa_nil))))) (pw_or1 (pt_cmpR op_ne (pe_callB call_lenD (by rfl) B.len PySem.boot_len (pa_cons (pv 0) pa_nil)) (pe_callB call_len_seq (by rfl) B.len PySem.boot_len (pa_cons (pv 1) pa_nil)) (nomark _))))) pss_never pss_nil)
      (pss_one (ps_if (pt_not (pt_val (pe_callB (cr_all rfl) (by rfl) B.all (by decide +kernel) (pa_cons (pe_lc (own := [("word", 2)]) (g := gName 2) (tt := tYes) rfl scCheckMap.nd (pi_list (pv 1)) (blkOk_by (N := nCheckMap) (sc := defScope sCheckMap) (by decide +kernel)) (fun _ _ _ _ _ => pg_name (i := 2) scCheckMap.nd rfl (Or.inl rfl)) (fun _ _ _ _ _ => pts_nil) (fun _ _ _ _ _ => (pe_and (pe_cmp (pc_din hu (pv 2) (pv 0)) rfl) (pe_one (pe_call GI hr rfl TI.g TI.F.kp TI.b .nil pass0 (pa_cons (pe_dget hu (pv 0) (pv 2) (fun _ _ => rfl)) pa_nil)))))) pa_nil))) ) pss_never pss_nil))), ?_⟩
    refine ⟨_, rfl, _, _, _, _, true, rfl, .ty "dict", .base (.dK hd), kit_ty (by decide +kernel), true, rfl, iteF ?_⟩
    refine ⟨_, rfl, d, kvs, rfl, hd, _, rfl, L, _, rfl, .inl (SqL.of eL), rfl, false, congrArg V.bl (by rw [List.length_map, hl]; simp), iteF ?_⟩
    refine ⟨_, rfl, L, rfl, ⟨_, SqL.of eL⟩, fun D hD => ?_⟩
    refine lc_list (K := K) (xs := ys.map V.str) (fun i H' => Same H H' ∧ H' D = some (.lst (List.replicate i (.bl true)))) ⟨same_upd hD, upd_same⟩ ?_ ?_ ?_
    · rintro i H' _ ⟨sI, _⟩
      exact SqL.of (sI _ _ eL)
    · rintro i x H' hx ⟨sI, eD⟩
      rw [List.getElem?_map] at hx
      obtain ⟨z, hzi, rfl⟩ := Option.map_eq_some_iff.mp hx
      obtain ⟨hi, _⟩ := List.getElem?_eq_some_iff.mp hzi
      obtain ⟨y, t, hy, hyt, hts⟩ := hm z (List.mem_of_getElem? hzi)
      have g1 := DGet.k (k := Sum.inr z) (sI _ _ hd)
      rw [hy] at g1
      refine ⟨rfl, _, rfl, _, rfl, d, _, rfl, g1, true, rfl, ?_⟩
      refine ⟨_, rfl, _, rfl, d, y, rfl, g1, y, t, rfl, hyt.mono (TK.of_same sI), hts, fun H2 s2 => ⟨_, s2 _ _ eD, by rw [List.length_replicate, sizeLine_eq]; omega, same_over (sI.trans s2) hD, by rw [upd_same, ← List.replicate_succ']⟩⟩
    · rintro H1 ⟨s1, eD⟩
      have rep : (List.replicate (ys.map V.str).length true).all id = true := by
        rw [List.all_eq_true]
        intro b hb
        exact (List.mem_replicate.mp hb).2
      exact ⟨D, List.replicate (ys.map V.str).length true, rfl, SqL.of (by rw [eD, List.map_replicate]), true, congrArg V.bl rep, iteF (k H1 s1)⟩
end
end U6

namespace U6
open PySem PySem.Spec PyProof.Rows L2 NdefX LamX KT
open PySem.W (Frag)
theorem sizes_app (l m : List Ty) : sizes (l ++ m) = sizes l + sizes m := by
  induction l with
  | nil => simp [sizes]
  | cons t l ih => simp only [List.cons_append, sizes, ih]; omega
theorem sizes_one (t : Ty) : sizes [t] = t.size := by simp [sizes]
theorem ty_size {x : D} {k : Ty} (h : x.ty = some k) : k.size ≤ x.size := by
  have e := D.ty_d h
  rw [← e, d_size, k.size_signs]
  omega
theorem leaves_size : ∀ (n : Nat) (u : D), u.size ≤ n → u.tl.isSome = true → sizes (leaves u) ≤ u.size := by
  intro n
  induction n with
  | zero => intro u h; have := u.size_pos; omega
  | succ n ih =>
    intro u hz h
    obtain ⟨r, hr⟩ := Option.isSome_iff_exists.mp h
    have f := (allK_fm (tl_allK _ u r (Nat.le_refl _) hr)).1
    have key : ∀ l : List D, sizeAll l ≤ n → (∀ p ∈ l, p.tl.isSome = true) → sizes ((nodesAll l).filterMap leafTy) ≤ sizeAll l := by
      intro l
      induction l with
      | nil => intro _ _; simp [nodesAll, sizes]
      | cons d r ihr =>
        intro hl hk
        simp only [sizeAll] at hl
        have := d.size_pos
        rw [nodesAll, List.filterMap_append, sizes_app]
        have q1 := ih d (by omega) (hk d List.mem_cons_self)
        have q2 := ihr (by omega) fun p hp => hk p (List.mem_cons_of_mem _ hp)
        unfold leaves at q1
        simp only [sizeAll]
        omega
    unfold leaves
    rw [f.nodes]
    have pz := f.psize.1
    have q := key u.parts.reverse (by rw [sizeAll_rev]; omega) fun p hp => tl_parts hr p (List.mem_reverse.mp hp)
    rw [sizeAll_rev] at q
    cases tl_inv hr with
    | @is x k hk =>
      have e : leafTy (.t [.s "is", x]) = some k := by simp [leafTy, hk]
      rw [List.filterMap_cons_some e]
      have := ty_size hk
      simp only [sizes, D.parts, D.size, sizeAll] at *
      simp [nodesAll, sizes] at *
      omega
    | @om x rx _ h1 h2 => rw [List.filterMap_cons_none (by simp [leafTy])]; omega
    | @um x rx _ h1 h2 => rw [List.filterMap_cons_none (by simp [leafTy])]; omega
    | @tm x y rx ry h1 h2 => rw [List.filterMap_cons_none (by simp [leafTy])]; omega
    | @tu p y ry _ h1 h2 => rw [List.filterMap_cons_none (by simp [leafTy])]; omega
    | @us nm p x y rx ry _ c h1 h2 h3 => rw [List.filterMap_cons_none (by simp [leafTy])]; omega
/-- others put for plain types -/
def puD (m : Str → Ty) (k : Ty) : D := .t [.s "is", (k.put m).d]
abbrev sPutAt : Stmt := (L2.defBody sWithPut).getD 2 (.Pass ⟨0, 0, 0, 0⟩)
abbrev nPutAt : List Str := ["knot", "parts", "sent"]
theorem scPutAt : NScope nPutAt ["knot", "parts"] ["sent"] (C8.fnScope sPutAt) := nscope_by (by decide +kernel)
theorem hPutAtB : ndefB (L2.defScope sWithPut) (C8.fnScope sPutAt) ["sent"] = true := by decide +kernel
def OkP (kvs : List (Key × V)) (m : Str → Ty) (H0 : Hp) (u : D) : Prop := OkD u ∧ ∀ k, leafTy u = some k → ∀ z ∈ k.words, ∃ x, valV kvs (Sum.inr z) = some x ∧ TyAt H0 x (m z)
section
variable {P : Program} {w : World} {K : Frag} {mg : Str → Option Value} {base : Heap} {T : List (Addr × Str)} {cF cP cW PF PP PW : Addr}
theorem ok_putAt {qual : Str} {cl : List (Str × Addr)} {c' f3 a : Addr} {DD : Pins} {EX : Exts} {kvs : List (Key × V)} {m : Str → Ty} {H0 : Hp} {fu fw : Addr} {fdu fdw : FuncData} (TU : Top K mg "put_in" sPutIn pPutIn fu fdu) (GU : FnOk P w K mg base CX0 6 fu fdu pPutIn (spPutIn T)) (TW : Top K mg "with_parts" sWithParts pWithParts fw fdw) (GW : FnOk P w K mg base CX0 2 fw fdw pWithParts spWP)
    (hd : H0 a = some (.dK kvs)) (hf : (f3, FnO f3 (NF.of sPutAt "put_at" qual cl c')) ∈ EX) (hc : (c', CodeO c' qual) ∈ EX) (C : CellD DD cl ["sent"] [some (.ref a)]) :
    Callee P w K mg base 7 f3 (spNodeG T D.parts (OkP kvs m H0) H0 (D.lf (puD m))) DD EX := by
  refine callee_def (N := nPutAt) (ps := ["knot", "parts"]) (F := NF.of sPutAt "put_at" qual cl c') scPutAt (fun doc pm ctv us hl => match us, hl with | [_, _], _ => rfl) (fun vs H Q h => ?_) hf hc C (fun A outer s H vs Q hr dp hx h => ?_)
  · obtain ⟨_, _, _, _, rfl, _⟩ := h
    rfl
  · obtain ⟨v, u, L, us, rfl, he0, hT, hv, ⟨⟨hsome, hdep, hsize⟩, hlf⟩, eL, hU, k⟩ := h
    have hr2 : Room 2 _ := hr.mono (by decide)
    refine ⟨_, (pss_cons (ps_if (pt_cmpR op_eq (pe_ix ix_tup (pv 0) pe_int (fun _ _ => rfl)) pe_str (nomark _)) (pss_one (ps_ret (pe_tup (pa_cons pe_str (pa_cons (pe_call GU hr rfl TU.g TU.F.kp TU.b .nil pass0 (pa_cons (pe_ix ix_tup (pv 0) pe_int (fun _ _ => rfl)) (pa_cons (pv 2) pa_nil))) pa_nil))))) pss_nil)
      (pss_one (ps_ret (pe_call GW hr2 rfl TW.g TW.F.kp TW.b .nil pass0 (pa_cons (pv 0) (pa_cons (pv 1) pa_nil)))))), ?_⟩
    obtain ⟨r, hr'⟩ := Option.isSome_iff_exists.mp hsome
    rcases wp_eq (f := puD m) hr' with ⟨x, kk, rfl, hk1⟩ | ⟨nm, l, hne, rfl, ll, el⟩
    · cases hv with
      | @t pp vs _ ev hvs =>
      cases hvs with
      | @cons x0 _ _ _ q0 hvs =>
      cases hvs with
      | @cons x1 _ _ _ q1 hvs =>
      cases hvs
      cases q0
      have tx := q1.ty hk1
      have ed := D.ty_d hk1
      simp only [D.size, sizeAll] at hsize
      have hm := hlf kk (by simp [leafTy, hk1])
      rw [lf_is hk1] at k
      refine ⟨_, rfl, pp, _, _, _, rfl, rfl, SqT.of ev, atI_nat (j := 0) rfl, rfl, true, congrArg V.bl (decide_eq_true rfl), iteT ?_⟩
      refine ⟨_, rfl, pp, _, _, _, rfl, rfl, SqT.of ev, atI_nat (j := 1) rfl, _, rfl, x1, kk, a, kvs, m, rfl, tx, by rw [ed]; omega, hT, he0 _ _ hd (fun ps z => by cases z), fun z hz => ?_, fun v1 H1 e1 T1 d1 => ⟨by show 2 ≤ sizeLine; rw [sizeLine_eq]; omega, fun q nq => ?_⟩⟩
      · obtain ⟨y, h1, h2⟩ := hm z hz
        exact ⟨y, h1, h2.mono (extn_tk he0)⟩
      · exact k _ _ (e1.trans (extn_same (same_upd nq))) (T1.ext (same_upd nq)) (dAt_is upd_same (d1.mono (TK.upd_new nq)))
    · have hv' := hv
      cases hv with
      | @t pp vs _ ev hvs =>
      cases hvs with
      | @cons x0 _ _ _ q0 hvs =>
      cases q0
      refine ⟨_, rfl, pp, _, _, _, rfl, rfl, SqT.of ev, atI_nat (j := 0) rfl, rfl, false, congrArg V.bl (decide_eq_false fun e => hne (by injection e)), iteF ?_⟩
      have lu := hU.length
      refine ⟨_, rfl, _, rfl, .ref pp, L, us, nm, l, _, rfl, hv', eL, hU, by omega, ?_, fun v1 H1 s1 d1 => k v1 H1 (extn_same s1) (hT.ext s1) (by rw [el]; exact d1)⟩
      rw [List.length_map]
      have := (allK_fm (tl_allK _ _ r (Nat.le_refl _) hr')).1.psize.2
      omega
theorem nodup_eq_len {xs ys : List Str} (h : xs.Nodup) (h' : ys.Nodup) (m : ∀ z, z ∈ xs ↔ z ∈ ys) : xs.length = ys.length :=
  Nat.le_antisymm (KT.nodup_len xs ys h fun x hx => (m x).mp hx) (KT.nodup_len ys xs h' fun x hx => (m x).mpr hx)
def spWithPut (T : List (Addr × Str)) : Sp := fun vs H Q _ => ∃ (v : V) (d : D) (a : Addr) (kvs : List (Key × V)) (ks : List Str) (m : Str → Ty), vs = [v, .ref a] ∧ DAt H v d ∧ d.tl.isSome = true ∧ d.dep ≤ 60 ∧ d.size ≤ 4000 ∧ Tabs T H ∧ H a = some (.dK kvs) ∧
  kvs.length = ks.length ∧ ks.length ≤ 5000 ∧ ks.Nodup ∧ (∀ z, z ∈ ks ↔ ∃ t ∈ leaves d, z ∈ t.words) ∧ (∀ z ∈ ks, ∃ x, valV kvs (Sum.inr z) = some x ∧ TyAt H x (m z) ∧ (m z).size ≤ 1000000) ∧ ∀ v' H', ExtN H H' → Tabs T H' → DAt H' v' (d.lf (puD m)) → Q v' H'
theorem leaf_words {u d : D} {k : Ty} (h : u ∈ d.nodes) (hk : leafTy u = some k) : k ∈ leaves d := List.mem_filterMap.mpr ⟨u, h, hk⟩
theorem ok_withPut {f ff fi fn fp fb cF' cI fc fk fu fw fm fpi fkn : Addr} {fd fdf fdi fdn fdp fdb fdc fdk fdu fdw fdm fdpi fdkn : FuncData} (TD : TopC K mg "with_put" sWithPut pWithPut f fd cW) (tbW : Tb1 base mg T cW PW "with_put.<locals>.put_at") (U : TKs K mg ff fi fn fp fb cF' cI fdf fdi fdn fdp fdb) (G : Gb5 K w mg) (B : Blt mg)
    (TC : Top K mg "check_derivation" sCheckDerivation pCheckDerivation fc fdc) (GC : FnOk P w K mg base CX0 8 fc fdc pCheckDerivation spCheckDer) (TM : Top K mg "check_map" sCheckMap pCheckMap fm fdm) (GM : FnOk P w K mg base CX0 3 fm fdm pCheckMap spCheckMap) (TPI : Top K mg "plains_in" sPlainsIn pPlainsIn fpi fdpi) (GPI : FnOk P w K mg base CX0 5 fpi fdpi pPlainsIn spPlainsIn)
    (TN : Top K mg "knots_in" sKnotsIn pKnotsIn fkn fdkn) (GN : FnOk P w K mg base CX0 4 fkn fdkn pKnotsIn spKnotsIn) (TU : Top K mg "put_in" sPutIn pPutIn fu fdu) (GU : FnOk P w K mg base CX0 6 fu fdu pPutIn (spPutIn T)) (TW : Top K mg "with_parts" sWithParts pWithParts fw fdw) (GW : FnOk P w K mg base CX0 2 fw fdw pWithParts spWP) : FnOk P w K mg base L2.CX0 10 f fd pWithPut (spWithPut T) := by
  have GF : FnD P w K mg base 9 ff fdf pFoldedKnots (spFK P w K mg base T) := ok_foldedK U G B
  have TF := U.TF
  refine FnD.ok (TD.fnd scWithPut (sp := fun _ => spWithPut T) (fun DD vs H Q h => ?_) (fun DD A outer s H vs Q hr dp h => ?_)) fun vs H Q E h => h
  · obtain ⟨_, _, _, _, _, _, rfl, _⟩ := h
    rfl
  · obtain ⟨v, d, a, kvs, ks, m, rfl, hd, hs, hdp, hz, hT, ea, hl, hl5, nd, hmem, hm, k⟩ := h
    have hr8 : Room 8 _ := hr.mono (by decide)
    have hr5 : Room 5 _ := hr.mono (by decide)
    have hr4 : Room 4 _ := hr.mono (by decide)
    have hr3 : Room 3 _ := hr.mono (by decide)
    have hz4 : d.size ≤ 40000 := by omega
    obtain ⟨ha, hok⟩ := okD_nodes hs hdp hz4
    refine ⟨_, (pss_cons (ps_expr (pe_call GC hr8 rfl TC.g TC.F.kp TC.b .nil pass0 (pa_cons (pv 0) pa_nil)))
      (pss_cons (ps_expr (pe_call GM hr3 rfl TM.g TM.F.kp TM.b .nil pass0 (pa_cons (pv 1) (pa_cons (pe_call GPI hr5 rfl TPI.g TPI.F.kp TPI.b .nil pass0 (pa_cons (pe_lc (own := [("knot", 3)]) (g := gName 3) rfl scWithPut.nd (pi_list (pe_call GN hr4 rfl TN.g TN.F.kp TN.b .nil pass0 (pa_cons (pv 0) pa_nil))) (blkOk_by (N := nWithPut) (sc := defScope sWithPut) (by decide +kernel)) (fun _ _ _ _ _ => pg_name (i := 3) scWithPut.nd rfl (Or.inl rfl)) (fun _ _ _ _ _ => pts_one (pt_cmpR op_eq (pe_ix (show IxR _ (rIxT K) from ix_tup) (pv 3) pe_int (fun _ _ => rfl)) pe_str (nomark _))) (fun _ _ _ _ _ => (pe_ix (show IxR _ (rIxT K) from ix_tup) (pv 3) pe_int (fun _ _ => rfl)))) pa_nil)) pa_nil))))
      (pss_cons (ps_ndefMS (st := sPutAt) (T := toN T) (nm := fun _ _ => "with_put.<locals>.put_at") (i := 2) rfl tbW.b rfl tbW.mN (show (_ : Str) = (("with_put" : Str) ++ (".<locals>." : Str)) ++ ("put_at" : Str) by decide +kernel) tbW.uN (ndef_free hPutAtB) rfl rfl rfl scWithPut.nd rfl (.inl rfl) (.inl rfl))
      (pss_one (ps_ret (pe_dcall (D0 := DD) (cl := _) (fr := ["sent"]) (js := [1]) GF hr rfl (fun _ => rfl) dp (fun ok => Caps.made ok (ndef_free hPutAtB) (ndef_fr hPutAtB) rfl) rfl TF.T.g TF.T.F.kp TF.T.b
        (pa_cons (pv 0) (pa_cons (pv 2) pa_nil)))))))), ?_⟩
    refine ⟨v, rfl, v, d, rfl, hd, hz4, hdp, hs, fun H1 s1 => ⟨_, rfl, v, rfl, v, d, rfl, hd.mono (TK.of_same s1), ha, by omega, fun L us H2 s2 nL eL hn => ⟨L, rfl, ⟨_, SqL.of eL⟩, fun W hW => ?_⟩⟩⟩
    have ln := hn.length
    refine lc_list (K := K) (xs := us) (fun i H' => Same H2 H' ∧ ∃ ys, H' W = some (.lst ys) ∧ Tys H' ys ((d.nodes.take i).filterMap leafTy)) ⟨same_upd hW, [], upd_same, .nil⟩ (fun i H' _ q => SqL.of (q.1 _ _ eL)) ?_ ?_
    · rintro i x H' hx ⟨sI, ys, eW, hY⟩
      obtain ⟨u, hu, hxu⟩ := hn.at_ hx
      obtain ⟨os, od, oz⟩ := hok u (List.mem_of_getElem? hu)
      obtain ⟨r, hr'⟩ := Option.isSome_iff_exists.mp os
      have ly := hY.length
      have lf : ((d.nodes.take i).filterMap leafTy).length ≤ i := by
        have := List.length_filterMap_le leafTy (d.nodes.take i)
        rw [List.length_take] at this
        omega
      obtain ⟨hi, _⟩ := List.getElem?_eq_some_iff.mp hu
      have nl := (treeD.len d.size d (Nat.le_refl _) ha).1
      have snoc : (d.nodes.take (i + 1)).filterMap leafTy = (d.nodes.take i).filterMap leafTy ++ [u].filterMap leafTy := by
        rw [List.take_add_one, hu, List.filterMap_append]
        rfl
      rcases wp_eq (f := puD m) hr' with ⟨x', kk, rfl, hk1⟩ | ⟨nm, l, hne, rfl, ll, el⟩
      · cases hxu with
        | @t pp vs _ ev hvs =>
        cases hvs with
        | @cons x0 _ _ _ q0 hvs =>
        cases hvs with
        | @cons x1 _ _ _ q1 hvs =>
        cases hvs
        cases q0
        refine ⟨rfl, _, rfl, pp, _, _, _, rfl, rfl, SqT.of (sI _ _ ev), atI_nat (j := 0) rfl, rfl, true, congrArg V.bl (decide_eq_true rfl), iteT ?_⟩
        refine ⟨_, rfl, pp, _, _, _, rfl, rfl, SqT.of (sI _ _ ev), atI_nat (j := 1) rfl, ys, eW, by rw [ly, sizeLine_eq]; omega, same_over sI hW, ys ++ [x1], upd_same, ?_⟩
        have tkw : TK H' (upd H' W (.lst (ys ++ [x1]))) := TK.upd_lst eW
        rw [snoc, List.filterMap_cons_some (show leafTy (.t [.s "is", x']) = some kk by simp [leafTy, hk1])]
        exact (hY.mono tkw).append (.cons (((q1.mono (TK.of_same sI)).ty hk1).mono tkw) .nil)
      · cases hxu with
        | @t pp vs _ ev hvs =>
        cases hvs with
        | @cons x0 _ _ _ q0 hvs =>
        cases q0
        refine ⟨rfl, _, rfl, pp, _, _, _, rfl, rfl, SqT.of (sI _ _ ev), atI_nat (j := 0) rfl, rfl, false, congrArg V.bl (decide_eq_false fun e => hne (by injection e)), iteF ⟨sI, ys, eW, ?_⟩⟩
        have ln : leafTy (.t (.s nm :: l)) = none := by
          unfold leafTy
          split
          · rename_i e
            injection e with e
            injection e with e _
            injection e with e
            rw [if_neg (by rw [← e]; exact hne)]
          · rfl
        rw [snoc, List.filterMap_cons_none ln, List.filterMap_nil, List.append_nil]
        exact hY
    · rintro H' ⟨sI, ys, eW, hY⟩
      rw [ln, List.take_length] at hY
      have sA : Same H H' := (s1.trans s2).trans sI
      have lz := leaves_size d.size d (Nat.le_refl _) hs
      refine ⟨W, ys, leaves d, rfl, eW, hY, by omega, fun R zs H3 hys s3 nR eR => ?_⟩
      have sB := sA.trans s3
      have mem : ∀ z, z ∈ zs ↔ z ∈ ks := fun z => (hys.mem z).trans (hmem z).symm
      have lzs : zs.length = ks.length := nodup_eq_len hys.nd nd mem
      refine ⟨a, R, kvs, zs, rfl, sB _ _ ea, eR, by omega, by omega, fun z hz' => ?_, fun H4 s4 => ?_⟩
      · obtain ⟨x, h1, h2, h3⟩ := hm z ((mem z).mp hz')
        exact ⟨x, m z, h1, h2.mono (TK.of_same sB), h3⟩
      have sC := sB.trans s4
      refine ⟨tabsN_of (hT.ext sC), fun f3 c' H5 eN nn T5 f0 e1 e2 => ⟨v, rfl, _, rfl, fun D1 CD => ?_⟩⟩
      have eH : ExtN H H5 := (extn_same sC).trans eN
      refine ⟨v, d, f3, D.lf (puD m), [(f3, FnO f3 (NF.of sPutAt "put_at" (("with_put" : Str) ++ (".<locals>." : Str) ++ ("put_at" : Str)) _ c')), (c', CodeO c' (("with_put" : Str) ++ (".<locals>." : Str) ++ ("put_at" : Str)))], OkP kvs m H5, H5, rfl, ExtN.refl _, tabs_of T5, hd.mono (extn_tk eH), ha, by omega, fun u hu => ⟨hok u hu, fun k' hk' z hz' => ?_⟩,
        ok_putAt TU GU TW GW (extn_dK eH ea) List.mem_cons_self (List.mem_cons_of_mem _ List.mem_cons_self) (CD.mono fun p hp => List.mem_append.mpr (.inr hp)), ?_, ?_, fun v' H' e' T' hv' => k v' H' (eH.trans e') T' hv'⟩
      · obtain ⟨x, h1, h2, h3⟩ := hm z ((hmem z).mpr ⟨k', leaf_words hu hk', hz'⟩)
        exact ⟨x, h1, h2.mono (extn_tk eH)⟩
      · intro p hp
        rcases List.mem_cons.mp hp with rfl | hp
        · exact e1
        · rcases List.mem_cons.mp hp with rfl | hp
          · exact e2
          · exact absurd hp (by simp)
      · intro p hp ps
        rcases List.mem_cons.mp hp with rfl | hp
        · exact fun z => by
            unfold FnO at z
            cases z
        · rcases List.mem_cons.mp hp with rfl | hp
          · exact codeO_ne ps
          · exact absurd hp (by simp)
end
end U6

namespace U6
open PySem PySem.Spec PyProof.Rows L2 LamX KT
open PySem.W (Frag)
section
variable {P : Program} {w : World} {K : Frag} {mg : Str → Option Value} {base : Heap}
def spCutIn : Sp := fun vs H Q _ => ∃ (v1 v2 : V) (d1 d2 : D) (r1 : List Ty) (g1 : Ty) (r2 : List Ty) (g2 : Ty) (n : Nat), vs = [v1, v2, .int (n : Nat)] ∧ DAt H v1 d1 ∧ DAt H v2 d2 ∧ d1.size ≤ 40000 ∧ d1.dep ≤ 60 ∧ d2.size ≤ 40000 ∧ d2.dep ≤ 60 ∧ d1.tl = some (r1, g1) ∧ d2.tl = some (r2, g2) ∧ r2[n]? = some g1 ∧ ∀ v' H', Same H H' → DAt H' v' (.t [.s "cut", .i (n : Nat), d1, d2]) → Q v' H'
theorem ok_cutIn {f fb fc : Addr} {fd fdb fdc : FuncData} (T : Top K mg "cut_in" sCutIn pCutIn f fd) (TB : Top K mg "told_by" sToldBy pToldBy fb fdb) (TC : Top K mg "is_count" sIsCount pIsCount fc fdc) (GB : FnOk P w K mg base CX0 7 fb fdb pToldBy spToldBy) (GC : FnOk P w K mg base CX0 1 fc fdc pIsCount spIsCountD) (B : Blt mg) : FnOk P w K mg base CX0 8 f fd pCutIn spCutIn := by
  refine T.F.ok scCutIn (fun vs H Q E h => ?_) (fun cdv A outer s H vs Q E hr h => ?_)
  · obtain ⟨_, _, _, _, _, _, _, _, _, rfl, _⟩ := h
    rfl
  · obtain ⟨v1, v2, d1, d2, r1, g1, r2, g2, n, rfl, h1, h2, z1, p1, z2, p2, e1, e2, en, q⟩ := h
    have hr1 : Room 1 _ := hr.mono (by decide)
    refine ⟨_, (pss_cons (ps_set (i := 3) scCutIn.nd rfl (Or.inl rfl) (pe_ix ix_tup (pe_call GB hr rfl TB.g TB.F.kp TB.b .nil pass0 (pa_cons (pv 0) pa_nil)) pe_int (fun _ _ => rfl)))
      (pss_cons (ps_set (i := 4) scCutIn.nd rfl (Or.inl rfl) (pe_ix ix_tup (pe_call GB hr rfl TB.g TB.F.kp TB.b .nil pass0 (pa_cons (pv 1) pa_nil)) pe_int (fun _ _ => rfl)))
      (pss_cons (ps_if (PW.pt (pw_or (pt_not (pt_val (pe_call GC hr1 rfl TC.g TC.F.kp TC.b .nil pass0 (pa_cons (pv 2) pa_nil)))) (pw_or1 (pt_cmpR op_ge (pv 2) (pe_callB call_len_seq (by rfl) B.len PySem.boot_len (pa_cons (pv 4) pa_nil)) (nomark _))))) pss_never pss_nil)
      (pss_cons (ps_if (pt_cmpR (op_neD (hu64 hr)) (pe_ix ix_list (pv 4) (pv 2) (fun _ _ => rfl)) (pv 3) (nomark _)) pss_never pss_nil)
      (pss_one (ps_ret (pe_tup (pa_cons pe_str (pa_cons (pv 2) (pa_cons (pv 0) (pa_cons (pv 1) pa_nil))))))))))), ?_⟩
    refine ⟨v1, rfl, v1, d1, _, rfl, h1, z1, p1, e1, fun t1 H1 s1 R1 => ?_⟩
    obtain ⟨q1, L1, us1, x1, rfl, _, eq1, eL1, hT1, hg1⟩ := R1
    refine ⟨q1, _, _, _, rfl, rfl, SqT.of eq1, atI_nat (j := 1) rfl, ?_⟩
    refine ⟨v2, rfl, v2, d2, _, rfl, h2.mono (TK.of_same s1), z2, p2, e2, fun t2 H2 s2 R2 => ?_⟩
    obtain ⟨q2, L2, us2, x2, rfl, _, eq2, eL2, hT2, hg2⟩ := R2
    refine ⟨q2, _, _, _, rfl, rfl, SqT.of eq2, atI_nat (j := 0) rfl, ?_⟩
    have s12 := s1.trans s2
    have hT2 : Tys H2 us2 r2 := hT2
    obtain ⟨y, hy0, hy⟩ := Tys.get hT2 en
    have lT2 := hT2.length
    obtain ⟨hn, _⟩ := List.getElem?_eq_some_iff.mp en
    refine ⟨_, rfl, _, .i n, rfl, .i n, ?_⟩
    have ec : (D.i n).isCnt = true := by simp [D.isCnt]
    rw [ec]
    refine ⟨_, rfl, iteF ?_⟩
    refine ⟨_, rfl, _, rfl, L2, _, rfl, .inl (SqL.of eL2), _, _, rfl, rfl, _, rfl, ?_⟩
    rw [decide_eq_false (show ¬ ((us2.length : Nat) : Int) ≤ (n : Nat) by omega)]
    refine iteF ?_
    have bg : g1.d.dep ≤ 60 := by
      have := (tl_bd d1.size d1 _ (Nat.le_refl _) e1).2.2
      have q : ((r1, g1) : Told).2.d.dep = g1.d.dep := rfl
      omega
    obtain ⟨A1, A2⟩ := ty_dp (K := K) hy bg
    obtain ⟨B1, B2⟩ := ty_dp (K := K) (hg1.mono (TK.of_same s2)) bg
    refine ⟨_, rfl, _, rfl, L2, _, _, _, rfl, rfl, SqL.of eL2, atI_nat hy0, _, rfl, _, _, A1, B1, A2, B2, ?_⟩
    rw [eqv_ty, decide_eq_true rfl]
    refine ⟨_, rfl, iteF ?_⟩
    exact yd_ret (yt4 (d := .i n) (txtIs _ (by simp)) (yd_var (by rfl) (.i n)) (yd_var (by rfl) (h1.mono (TK.of_same s12))) (yd_var (by rfl) (h2.mono (TK.of_same s12)))) (Same.refl H2) fun v' H' s' h' => q v' H' (s12.trans s') h'
end
end U6

namespace U6
open PySem PySem.Spec PyProof.Rows L2 NdefX LamX KT
open PySem.W (Frag)
theorem Ty.words_len (t : Ty) : t.words.length = t.signs + 1 := by
  induction t with
  | w _ => rfl
  | n g a b i j => simp only [Ty.words, Ty.signs, List.length_append]; omega
section
variable {P : Program} {w : World} {K : Frag} {mg : Str → Option Value} {base : Heap}
def spPlainList (d : Nat) : Sp := fun vs H Q _ => ∃ v t, vs = [v] ∧ TyAt H v t ∧ t.d.dep ≤ d ∧ t.signs ≤ 2000 ∧ ∀ L H', Same H H' → H L = none → H' L = some (.lst (t.words.map V.str)) → Q (.ref L) H'
theorem ok_plainList {f : Addr} {fd : FuncData} (T : Top K mg "_law_plain_list" sLPlainList pLPlainList f fd) (B : Blt mg) : ∀ d : Nat, d ≤ 60 → FnOk P w K mg base CX0 (1 + d) f fd pLPlainList (spPlainList d)
  | 0, _ => by
    refine T.F.ok scLPlainList (fun vs H Q E h => ?_) (fun cdv A outer s H vs Q E hr h => ?_)
    · obtain ⟨_, _, rfl, _⟩ := h
      rfl
    · obtain ⟨v, t, rfl, ht, hd, hsg, k⟩ := h
      refine ⟨_, (pss_one (ps_ret (pe_ifExp (pt_val (pe_callB call_isi (by rfl) B.isi (by decide +kernel) (pa_cons (pv 0) (pa_cons (pe_bltn (v := .ty "str") (by rfl) B.str_ (by decide +kernel) rfl) pa_nil)))) (pe_lst (pa_cons (pv 0) pa_nil)) pe_never))), ?_⟩
      cases ht with
      | @w z h => exact ⟨_, rfl, _, _, _, _, true, rfl, .ty "str", .base (.str z), kit_ty (by decide +kernel), true, rfl, iteT ⟨_, rfl, by show 1 ≤ sizeLine; rw [sizeLine_eq]; omega, fun p hp => k p _ (same_upd hp) hp upd_same⟩⟩
      | @n p g x y a b e h1 h2 =>
        rw [dep_n] at hd
        omega
  | d + 1, hd => by
    have GP : FnOk P w K mg base CX0 (1 + d) f fd pLPlainList (spPlainList d) := ok_plainList T B d (by omega)
    refine T.F.ok (k := 1 + d) scLPlainList (fun vs H Q E h => ?_) (fun cdv A outer s H vs Q E hr h => ?_)
    · obtain ⟨_, _, rfl, _⟩ := h
      rfl
    · obtain ⟨v, t, rfl, ht, hd', hsg, k⟩ := h
      refine ⟨_, (pss_one (ps_ret (pe_ifExp (pt_val (pe_callB call_isi (by rfl) B.isi (by decide +kernel) (pa_cons (pv 0) (pa_cons (pe_bltn (v := .ty "str") (by rfl) B.str_ (by decide +kernel) rfl) pa_nil)))) (pe_lst (pa_cons (pv 0) pa_nil)) (pe_op op_cat (pe_call GP hr rfl T.g T.F.kp T.b .nil pass0 (pa_cons (pe_ix ix_tup (pv 0) pe_int (fun _ _ => rfl)) pa_nil)) (pe_call GP hr rfl T.g T.F.kp T.b .nil pass0 (pa_cons (pe_ix ix_tup (pv 0) pe_int (fun _ _ => rfl)) pa_nil)))))), ?_⟩
      cases ht with
      | @w z h => exact ⟨_, rfl, _, _, _, _, true, rfl, .ty "str", .base (.str z), kit_ty (by decide +kernel), true, rfl, iteT ⟨_, rfl, by show 1 ≤ sizeLine; rw [sizeLine_eq]; omega, fun p hp => k p _ (same_upd hp) hp upd_same⟩⟩
      | @n p g x y a b e h1 h2 =>
        rw [dep_n] at hd'
        simp only [Ty.signs] at hsg
        refine ⟨_, rfl, _, _, _, _, false, rfl, .ty "str", .base (.tup e), kit_ty (by decide +kernel), false, rfl, iteF ?_⟩
        refine ⟨_, rfl, p, _, _, _, rfl, rfl, SqT.of e, atI_nat (j := 1) rfl, x, a, rfl, h1, by omega, by omega, fun L1 H1 s1 n1 e1 => ?_⟩
        refine ⟨_, rfl, p, _, _, _, rfl, rfl, SqT.of (s1 _ _ e), atI_nat (j := 2) rfl, y, b, rfl, h2.mono (TK.of_same s1), by omega, by omega, fun L2 H2 s2 n2 e2 => ?_⟩
        refine ⟨L1, L2, _, _, rfl, rfl, s2 _ _ e1, e2, by rw [List.length_map, List.length_map, Ty.words_len, Ty.words_len, sizeLine_eq]; omega, fun q nq => ?_⟩
        exact k q _ ((s1.trans s2).trans (same_upd nq)) ((s1.trans s2).free nq) (by rw [upd_same, ← List.map_append]; rfl)
def spLTurned (d : Nat) : Sp := fun vs H Q _ => ∃ v t, vs = [v] ∧ TyAt H v t ∧ t.d.dep ≤ d ∧ ∀ v' H', Same H H' → TyAt H' v' t.turned → Q v' H'
def turnKvs : List (Key × V) := [(Sum.inr "over", .str "under"), (Sum.inr "under", .str "over"), (Sum.inr "then", .str "then")]
theorem turn_get (g : Sg) : valV (mergeK [] turnKvs) (Sum.inr g.str) = some (.str g.turn.str) := by cases g <;> decide +kernel
theorem ok_lturned {f : Addr} {fd : FuncData} (T : Top K mg "_law_turned" sLTurned pLTurned f fd) (B : Blt mg) : ∀ d : Nat, d ≤ 60 → FnOk P w K mg base CX0 (1 + d) f fd pLTurned (spLTurned d)
  | 0, _ => by
    refine T.F.ok scLTurned (fun vs H Q E h => ?_) (fun cdv A outer s H vs Q E hr h => ?_)
    · obtain ⟨_, _, rfl, _⟩ := h
      rfl
    · obtain ⟨v, t, rfl, ht, hd, k⟩ := h
      refine ⟨_, pss_cons (ps_if (pt_val (pe_callB call_isi (by rfl) B.isi (by decide +kernel) (pa_cons (pv 0) (pa_cons (pe_bltn (v := .ty "str") (by rfl) B.str_ (by decide +kernel) rfl) pa_nil)))) (pss_one (ps_ret (pv 0))) pss_nil) pss_never, ?_⟩
      cases ht with
      | @w z h => exact ⟨_, rfl, _, _, _, _, true, rfl, .ty "str", .base (.str z), kit_ty (by decide +kernel), true, rfl, iteT ⟨_, rfl, k _ H (Same.refl H) (.w h)⟩⟩
      | @n p g x y a b e h1 h2 =>
        rw [dep_n] at hd
        omega
  | d + 1, hd => by
    have GP : FnOk P w K mg base CX0 (1 + d) f fd pLTurned (spLTurned d) := ok_lturned T B d (by omega)
    refine T.F.ok (k := 1 + d) scLTurned (fun vs H Q E h => ?_) (fun cdv A outer s H vs Q E hr h => ?_)
    · obtain ⟨_, _, rfl, _⟩ := h
      rfl
    · obtain ⟨v, t, rfl, ht, hd', k⟩ := h
      have hu := hu_of hr
      refine ⟨_, (pss_cons (ps_if (pt_val (pe_callB call_isi (by rfl) B.isi (by decide +kernel) (pa_cons (pv 0) (pa_cons (pe_bltn (v := .ty "str") (by rfl) B.str_ (by decide +kernel) rfl) pa_nil)))) (pss_one (ps_ret (pv 0))) pss_nil)
      (pss_one (ps_ret (pe_tup (pa_cons (pe_dget hu (pe_disp (pps_cons pe_str pe_str (pps_cons pe_str pe_str (pps_cons pe_str pe_str pps_nil))) (by rfl) (by rfl) (fun z => by cases z) (by decide)) (pe_ix ix_tup (pv 0) pe_int (fun _ _ => rfl)) (fun _ _ => rfl)) (pa_cons (pe_call GP hr rfl T.g T.F.kp T.b .nil pass0 (pa_cons (pe_ix ix_tup (pv 0) pe_int (fun _ _ => rfl)) pa_nil)) (pa_cons (pe_call GP hr rfl T.g T.F.kp T.b .nil pass0 (pa_cons (pe_ix ix_tup (pv 0) pe_int (fun _ _ => rfl)) pa_nil)) pa_nil))))))), ?_⟩
      cases ht with
      | @w z h => exact ⟨_, rfl, _, _, _, _, true, rfl, .ty "str", .base (.str z), kit_ty (by decide +kernel), true, rfl, iteT ⟨_, rfl, k _ H (Same.refl H) (.w h)⟩⟩
      | @n p g x y a b e h1 h2 =>
        rw [dep_n] at hd'
        refine ⟨_, rfl, _, _, _, _, false, rfl, .ty "str", .base (.tup e), kit_ty (by decide +kernel), false, rfl, iteF ?_⟩
        refine fun q nq => ⟨upd_same, turnKvs, rfl, by decide, ?_⟩
        rw [upd_upd]
        have s1 : Same H (upd H q (.dK (mergeK [] turnKvs))) := same_upd nq
        refine ⟨_, rfl, p, _, _, _, rfl, rfl, SqT.of (s1 _ _ e), atI_nat (j := 0) rfl, q, .str g.turn.str, rfl, ?_, ?_⟩
        · have g1 := DGet.k (k := Sum.inr g.str) (show upd H q (.dK (mergeK [] turnKvs)) q = some (.dK (mergeK [] turnKvs)) from upd_same)
          rw [turn_get] at g1
          exact g1
        · refine ⟨_, rfl, p, _, _, _, rfl, rfl, SqT.of (s1 _ _ e), atI_nat (j := 2) rfl, y, b, rfl, h2.mono (TK.of_same s1), by omega, fun y' H2 s2 hy' => ?_⟩
          refine ⟨_, rfl, p, _, _, _, rfl, rfl, SqT.of (s2 _ _ (s1 _ _ e)), atI_nat (j := 1) rfl, x, a, rfl, h1.mono ((TK.of_same s1).trans (TK.of_same s2)), by omega, fun x' H3 s3 hx' => ?_⟩
          refine ⟨by show 3 ≤ sizeLine; rw [sizeLine_eq]; omega, fun r nr => ?_⟩
          exact k _ _ (((s1.trans s2).trans s3).trans (same_upd nr)) (.n upd_same (hy'.mono ((TK.of_same s3).trans (TK.upd_new nr))) (hx'.mono (TK.upd_new nr)))
def spLPut (d : Nat) : Sp := fun vs H Q _ => ∃ (v : V) (t : Ty) (dd : Addr) (kvs : List (Key × V)) (m : Str → Ty), vs = [v, .ref dd] ∧ TyAt H v t ∧ t.d.dep ≤ d ∧ H dd = some (.dK kvs) ∧ (∀ z ∈ t.words, ∃ x, valV kvs (Sum.inr z) = some x ∧ TyAt H x (m z)) ∧
  ∀ v' H', Same H H' → TyAt H' v' (t.put m) → Q v' H'
theorem ok_lput {f : Addr} {fd : FuncData} (T : Top K mg "_law_put" sLPut pLPut f fd) (B : Blt mg) : ∀ d : Nat, d ≤ 60 → FnOk P w K mg base CX0 (1 + d) f fd pLPut (spLPut d)
  | 0, _ => by
    refine T.F.ok scLPut (fun vs H Q E h => ?_) (fun cdv A outer s H vs Q E hr h => ?_)
    · obtain ⟨_, _, _, _, _, rfl, _⟩ := h
      rfl
    · obtain ⟨v, t, dd, kvs, m, rfl, ht, hd, hdd, hm, k⟩ := h
      have hu := hu_of hr
      refine ⟨_, (pss_one (ps_ret (pe_ifExp (pt_val (pe_callB call_isi (by rfl) B.isi (by decide +kernel) (pa_cons (pv 0) (pa_cons (pe_bltn (v := .ty "str") (by rfl) B.str_ (by decide +kernel) rfl) pa_nil)))) (pe_dget hu (pv 1) (pv 0) (fun _ _ => rfl)) pe_never))), ?_⟩
      cases ht with
      | @w z h =>
        obtain ⟨x, hx, hxt⟩ := hm z (by simp [Ty.words])
        have g1 := DGet.k (k := Sum.inr z) hdd
        rw [hx] at g1
        exact ⟨_, rfl, _, _, _, _, true, rfl, .ty "str", .base (.str z), kit_ty (by decide +kernel), true, rfl, iteT ⟨_, rfl, _, rfl, dd, x, rfl, g1, k x H (Same.refl H) hxt⟩⟩
      | @n p g x y a b e h1 h2 =>
        rw [dep_n] at hd
        omega
  | d + 1, hd => by
    have GP : FnOk P w K mg base CX0 (1 + d) f fd pLPut (spLPut d) := ok_lput T B d (by omega)
    refine T.F.ok (k := 1 + d) scLPut (fun vs H Q E h => ?_) (fun cdv A outer s H vs Q E hr h => ?_)
    · obtain ⟨_, _, _, _, _, rfl, _⟩ := h
      rfl
    · obtain ⟨v, t, dd, kvs, m, rfl, ht, hd', hdd, hm, k⟩ := h
      have hu := hu_of hr
      refine ⟨_, (pss_one (ps_ret (pe_ifExp (pt_val (pe_callB call_isi (by rfl) B.isi (by decide +kernel) (pa_cons (pv 0) (pa_cons (pe_bltn (v := .ty "str") (by rfl) B.str_ (by decide +kernel) rfl) pa_nil)))) (pe_dget hu (pv 1) (pv 0) (fun _ _ => rfl))
        (pe_tup (pa_cons (pe_ix ix_tup (pv 0) pe_int (fun _ _ => rfl)) (pa_cons (pe_call GP hr rfl T.g T.F.kp T.b .nil pass0 (pa_cons (pe_ix ix_tup (pv 0) pe_int (fun _ _ => rfl)) (pa_cons (pv 1) pa_nil))) (pa_cons (pe_call GP hr rfl T.g T.F.kp T.b .nil pass0 (pa_cons (pe_ix ix_tup (pv 0) pe_int (fun _ _ => rfl)) (pa_cons (pv 1) pa_nil))) pa_nil))))))), ?_⟩
      cases ht with
      | @w z h =>
        obtain ⟨x, hx, hxt⟩ := hm z (by simp [Ty.words])
        have g1 := DGet.k (k := Sum.inr z) hdd
        rw [hx] at g1
        exact ⟨_, rfl, _, _, _, _, true, rfl, .ty "str", .base (.str z), kit_ty (by decide +kernel), true, rfl, iteT ⟨_, rfl, _, rfl, dd, x, rfl, g1, k x H (Same.refl H) hxt⟩⟩
      | @n p g x y a b e h1 h2 =>
        rw [dep_n] at hd'
        refine ⟨_, rfl, _, _, _, _, false, rfl, .ty "str", .base (.tup e), kit_ty (by decide +kernel), false, rfl, iteF ?_⟩
        refine ⟨_, rfl, p, _, _, _, rfl, rfl, SqT.of e, atI_nat (j := 0) rfl, ?_⟩
        refine ⟨_, rfl, p, _, _, _, rfl, rfl, SqT.of e, atI_nat (j := 1) rfl, _, rfl, x, a, dd, kvs, m, rfl, h1, by omega, hdd, fun z hz => hm z (List.mem_append.mpr (.inl hz)), fun x' H2 s2 hx' => ?_⟩
        refine ⟨_, rfl, p, _, _, _, rfl, rfl, SqT.of (s2 _ _ e), atI_nat (j := 2) rfl, _, rfl, y, b, dd, kvs, m, rfl, h2.mono (TK.of_same s2), by omega, s2 _ _ hdd, fun z hz => ?_, fun y' H3 s3 hy' => ?_⟩
        · obtain ⟨u, h3, h4⟩ := hm z (List.mem_append.mpr (.inr hz))
          exact ⟨u, h3, h4.mono (TK.of_same s2)⟩
        · refine ⟨by show 3 ≤ sizeLine; rw [sizeLine_eq]; omega, fun r nr => ?_⟩
          exact k _ _ ((s2.trans s3).trans (same_upd nr)) (.n upd_same (hx'.mono ((TK.of_same s3).trans (TK.upd_new nr))) (hy'.mono (TK.upd_new nr)))
end
end U6

namespace U6
open PySem PySem.Spec PyProof.Rows L2 NdefX LamX KT
open PySem.W (Frag)
def othKvs : List (Key × V) := [(Sum.inr "over made", .str "under made"), (Sum.inr "under made", .str "over made"), (Sum.inr "over used", .str "under used"), (Sum.inr "under used", .str "over used"), (Sum.inr "cut", .str "cut")]
theorem oth_get (nm : Str) (h : nm = "over made" ∨ nm = "under made" ∨ nm = "over used" ∨ nm = "under used" ∨ nm = "cut") : valV (mergeK [] othKvs) (Sum.inr nm) = some (.str (oth nm)) := by
  rcases h with rfl | rfl | rfl | rfl | rfl <;> decide +kernel
section
variable {P : Program} {w : World} {K : Frag} {mg : Str → Option Value} {base : Heap}
def spAbout (n : Nat) : Sp := fun vs H Q _ => ∃ v u, vs = [v] ∧ DAt H v u ∧ u.tl.isSome = true ∧ u.dep ≤ n ∧ u.dep ≤ 60 ∧ u.size ≤ 40000 ∧ ∀ v' H', Same H H' → DAt H' v' u.ab → Q v' H'
theorem about_step {f ft fl : Addr} {fd fdt fdl : FuncData} (T : Top K mg "_law_about" sLAbout pLAbout f fd) (TT : Top K mg "_law_tells" sLTells pLTells ft fdt) (TL : Top K mg "_law_turned" sLTurned pLTurned fl fdl) (B : Blt mg) {n m : Nat} (GP : FnOk P w K mg base CX0 m f fd pLAbout (spAbout n)) (GT : FnOk P w K mg base CX0 m ft fdt pLTells (spLTells n)) (GL : FnOk P w K mg base CX0 m fl fdl pLTurned (spLTurned n)) : FnOk P w K mg base CX0 (m + 1) f fd pLAbout (spAbout (n + 1)) := by
  refine T.F.ok scLAbout (fun vs H Q E h => ?_) (fun cdv A outer s H vs Q E hr h => ?_)
  · obtain ⟨_, _, rfl, _⟩ := h
    rfl
  · obtain ⟨v, u, rfl, hv, hsome, hn, h60, hz, k⟩ := h
    refine ⟨_, (pss_cons (ps_par (i := 1) (j := 2) rfl scLAbout.nd rfl rfl (by decide) rfl rfl (pa_cons (pe_ix ix_tup (pv 0) pe_int (fun _ _ => rfl)) (pa_cons (pe_disp (pps_cons pe_str pe_str (pps_cons pe_str pe_str (pps_cons pe_str pe_str (pps_cons pe_str pe_str (pps_cons pe_str pe_str pps_nil))))) (by rfl) (by rfl) (by simp) (by decide)) pa_nil)) (by rfl))
      (pss_cons (ps_if (pt_cmpR op_eq (pv 1) pe_str (nomark _)) (pss_one (ps_ret (pe_tup (pa_cons pe_str (pa_cons (pe_call GL hr rfl TL.g TL.F.kp TL.b .nil pass0 (pa_cons (pe_ix ix_tup (pv 0) pe_int (fun _ _ => rfl)) pa_nil)) pa_nil))))) pss_nil)
      (pss_cons (ps_if (pt_cmpR op_in_seq (pv 1) (pe_tup (pa_cons pe_str (pa_cons pe_str pa_nil))) (by rfl)) (pss_one (ps_ret (pe_tup (pa_cons (pe_dget (hu_of hr) (pv 2) (pv 1) (fun _ _ => rfl)) (pa_cons (pe_call GP hr rfl T.g T.F.kp T.b .nil pass0 (pa_cons (pe_ix ix_tup (pv 0) pe_int (fun _ _ => rfl)) pa_nil)) pa_nil))))) pss_nil)
      (pss_cons (ps_if (pt_cmpR op_eq (pv 1) pe_str (nomark _)) (pss_one (ps_ret (pe_tup (pa_cons (pv 1) (pa_cons (pe_call GP hr rfl T.g T.F.kp T.b .nil pass0 (pa_cons (pe_ix ix_tup (pv 0) pe_int (fun _ _ => rfl)) pa_nil)) (pa_cons (pe_call GP hr rfl T.g T.F.kp T.b .nil pass0 (pa_cons (pe_ix ix_tup (pv 0) pe_int (fun _ _ => rfl)) pa_nil)) pa_nil)))))) pss_nil)
      (pss_cons (ps_set (i := 3) scLAbout.nd rfl (Or.inl rfl) (pe_ix ix_list (pe_call GT hr rfl TT.g TT.F.kp TT.b .nil pass0 (pa_cons (pe_ix ix_tup (pv 0) (pe_un un_neg pe_int) (fun _ _ => rfl)) pa_nil)) pe_int (fun _ _ => rfl)))
      (pss_cons (ps_if (pt_cmpR op_eq (pv 1) pe_str (nomark _)) (pss_one (ps_ret (pe_tup (pa_cons (pv 1) (pa_cons (pe_op op_sub (pe_op op_sub (pe_callB call_len_seq (by rfl) B.len PySem.boot_len (pa_cons (pv 3) pa_nil)) (pe_ix ix_tup (pv 0) pe_int (fun _ _ => rfl))) pe_int) (pa_cons (pe_call GP hr rfl T.g T.F.kp T.b .nil pass0 (pa_cons (pe_ix ix_tup (pv 0) pe_int (fun _ _ => rfl)) pa_nil)) pa_nil)))))) pss_nil)
      (pss_one (ps_ret (pe_tup (pa_cons (pe_dget (hu_of hr) (pv 2) (pv 1) (fun _ _ => rfl)) (pa_cons (pe_op op_sub (pe_op op_sub (pe_callB call_len_seq (by rfl) B.len PySem.boot_len (pa_cons (pv 3) pa_nil)) (pe_ix ix_tup (pv 0) pe_int (fun _ _ => rfl))) pe_int) (pa_cons (pe_call GP hr rfl T.g T.F.kp T.b .nil pass0 (pa_cons (pe_ix ix_tup (pv 0) pe_int (fun _ _ => rfl)) pa_nil)) (pa_cons (pe_call GP hr rfl T.g T.F.kp T.b .nil pass0 (pa_cons (pe_ix ix_tup (pv 0) pe_int (fun _ _ => rfl)) pa_nil)) pa_nil))))))))))))), ?_⟩
    have l2 : 2 ≤ sizeLine := by rw [sizeLine_eq]; omega
    have l3 : 3 ≤ sizeLine := by rw [sizeLine_eq]; omega
    have fF : ∀ {z z' : Str}, z ≠ z' → V.bl (decide (V.str z = V.str z')) = V.bl false := fun n => congrArg V.bl (decide_eq_false fun e => n (by injection e))
    have fT : ∀ {z : Str}, V.bl (decide (V.str z = V.str z)) = V.bl true := congrArg V.bl (decide_eq_true rfl)
    obtain ⟨r, hr'⟩ := Option.isSome_iff_exists.mp hsome
    cases tl_inv hr' with
    | @is x kk hk1 =>
      cases hv with
      | @t pp vs _ ev hvs =>
      cases hvs with
      | @cons x0 _ _ _ q0 hvs =>
      cases hvs with
      | @cons x1 _ _ _ q1 hvs =>
      cases hvs
      cases q0
      simp only [D.dep, depAll] at hn h60
      simp only [D.size, sizeAll] at hz
      refine ⟨_, rfl, pp, _, _, _, rfl, rfl, SqT.of ev, atI_nat (j := 0) rfl, fun q nq => ⟨upd_same, othKvs, rfl, by decide, ?_⟩⟩
      rw [upd_upd]
      have s1 : Same H (upd H q (.dK (mergeK [] othKvs))) := same_upd nq
      have eq : upd H q (.dK (mergeK [] othKvs)) q = some (.dK (mergeK [] othKvs)) := upd_same
      generalize upd H q (.dK (mergeK [] othKvs)) = H1 at s1 eq ⊢
      have tk1 := TK.of_same s1
      have ev1 := s1 _ _ ev
      refine ⟨_, _, rfl, ?_⟩
      dsimp only
      have ed := D.ty_d hk1
      refine ⟨_, rfl, rfl, true, fT, iteT ⟨_, rfl, pp, _, _, _, rfl, rfl, SqT.of ev1, atI_nat (j := 1) rfl, x1, kk, rfl, (q1.ty hk1).mono tk1, by rw [ed]; omega, fun v1 H3 s3 d1 => ⟨l2, fun p3 n3 => ?_⟩⟩⟩
      refine k _ _ (s1.trans (s3.trans (same_upd n3))) ?_
      rw [ab_is hk1]
      exact dAt_2 (txtIs _ (by simp)) upd_same (d1.d.mono (TK.upd_new n3))
    | @om x rx _ h1 h2 =>
      cases hv with
      | @t pp vs _ ev hvs =>
      cases hvs with
      | @cons x0 _ _ _ q0 hvs =>
      cases hvs with
      | @cons x1 _ _ _ q1 hvs =>
      cases hvs
      cases q0
      simp only [D.dep, depAll] at hn h60
      simp only [D.size, sizeAll] at hz
      refine ⟨_, rfl, pp, _, _, _, rfl, rfl, SqT.of ev, atI_nat (j := 0) rfl, fun q nq => ⟨upd_same, othKvs, rfl, by decide, ?_⟩⟩
      rw [upd_upd]
      have s1 : Same H (upd H q (.dK (mergeK [] othKvs))) := same_upd nq
      have eq : upd H q (.dK (mergeK [] othKvs)) q = some (.dK (mergeK [] othKvs)) := upd_same
      generalize upd H q (.dK (mergeK [] othKvs)) = H1 at s1 eq ⊢
      have tk1 := TK.of_same s1
      have ev1 := s1 _ _ ev
      refine ⟨_, _, rfl, ?_⟩
      dsimp only
      refine ⟨_, rfl, rfl, false, fF (by decide), iteF ?_⟩
      refine ⟨_, rfl, l2, fun p0 n0 => ⟨p0, _, rfl, .inr (SqT.of upd_same), rfl, flat_map ["over made", "under made"], _, rfl, ?_⟩⟩
      rw [if_neg (by decide), show inV (.str "over made") [.str "over made", .str "under made"] = true by decide +kernel]
      have s0 := same_upd (o := .tup [.str "over made", .str "under made"]) n0
      generalize upd H1 p0 (.tup [.str "over made", .str "under made"]) = H2 at s0 ⊢
      have s2 := s1.trans s0
      have tk2 := TK.of_same s2
      have ev2 := s2 _ _ ev
      have eq2 := s0 _ _ eq
      have g1 := DGet.k (k := Sum.inr ("over made" : Str)) eq2
      rw [oth_get "over made" (by simp), show oth "over made" = "under made" by decide +kernel] at g1
      refine iteT ⟨_, rfl, _, rfl, q, _, rfl, g1, ?_⟩
      refine ⟨_, rfl, pp, _, _, _, rfl, rfl, SqT.of ev2, atI_nat (j := 1) rfl, x1, x, rfl, q1.mono tk2, by rw [h1]; rfl, by omega, by omega, by omega, fun v1 H3 s3 d1 => ⟨l2, fun p3 n3 => ?_⟩⟩
      refine k _ _ (s2.trans (s3.trans (same_upd n3))) ?_
      rw [ab_om]
      exact dAt_2 (txtIs _ (by simp)) upd_same (d1.mono (TK.upd_new n3))
    | @um x rx _ h1 h2 =>
      cases hv with
      | @t pp vs _ ev hvs =>
      cases hvs with
      | @cons x0 _ _ _ q0 hvs =>
      cases hvs with
      | @cons x1 _ _ _ q1 hvs =>
      cases hvs
      cases q0
      simp only [D.dep, depAll] at hn h60
      simp only [D.size, sizeAll] at hz
      refine ⟨_, rfl, pp, _, _, _, rfl, rfl, SqT.of ev, atI_nat (j := 0) rfl, fun q nq => ⟨upd_same, othKvs, rfl, by decide, ?_⟩⟩
      rw [upd_upd]
      have s1 : Same H (upd H q (.dK (mergeK [] othKvs))) := same_upd nq
      have eq : upd H q (.dK (mergeK [] othKvs)) q = some (.dK (mergeK [] othKvs)) := upd_same
      generalize upd H q (.dK (mergeK [] othKvs)) = H1 at s1 eq ⊢
      have tk1 := TK.of_same s1
      have ev1 := s1 _ _ ev
      refine ⟨_, _, rfl, ?_⟩
      dsimp only
      refine ⟨_, rfl, rfl, false, fF (by decide), iteF ?_⟩
      refine ⟨_, rfl, l2, fun p0 n0 => ⟨p0, _, rfl, .inr (SqT.of upd_same), rfl, flat_map ["over made", "under made"], _, rfl, ?_⟩⟩
      rw [if_neg (by decide), show inV (.str "under made") [.str "over made", .str "under made"] = true by decide +kernel]
      have s0 := same_upd (o := .tup [.str "over made", .str "under made"]) n0
      generalize upd H1 p0 (.tup [.str "over made", .str "under made"]) = H2 at s0 ⊢
      have s2 := s1.trans s0
      have tk2 := TK.of_same s2
      have ev2 := s2 _ _ ev
      have eq2 := s0 _ _ eq
      have g1 := DGet.k (k := Sum.inr ("under made" : Str)) eq2
      rw [oth_get "under made" (by simp), show oth "under made" = "over made" by decide +kernel] at g1
      refine iteT ⟨_, rfl, _, rfl, q, _, rfl, g1, ?_⟩
      refine ⟨_, rfl, pp, _, _, _, rfl, rfl, SqT.of ev2, atI_nat (j := 1) rfl, x1, x, rfl, q1.mono tk2, by rw [h1]; rfl, by omega, by omega, by omega, fun v1 H3 s3 d1 => ⟨l2, fun p3 n3 => ?_⟩⟩
      refine k _ _ (s2.trans (s3.trans (same_upd n3))) ?_
      rw [ab_um]
      exact dAt_2 (txtIs _ (by simp)) upd_same (d1.mono (TK.upd_new n3))
    | @tm x y rx ry h1 h2 =>
      cases hv with
      | @t pp vs _ ev hvs =>
      cases hvs with
      | @cons x0 _ _ _ q0 hvs =>
      cases hvs with
      | @cons x1 _ _ _ q1 hvs =>
      cases hvs with
      | @cons x2 _ _ _ q2 hvs =>
      cases hvs
      cases q0
      simp only [D.dep, depAll] at hn h60
      simp only [D.size, sizeAll] at hz
      refine ⟨_, rfl, pp, _, _, _, rfl, rfl, SqT.of ev, atI_nat (j := 0) rfl, fun q nq => ⟨upd_same, othKvs, rfl, by decide, ?_⟩⟩
      rw [upd_upd]
      have s1 : Same H (upd H q (.dK (mergeK [] othKvs))) := same_upd nq
      have eq : upd H q (.dK (mergeK [] othKvs)) q = some (.dK (mergeK [] othKvs)) := upd_same
      generalize upd H q (.dK (mergeK [] othKvs)) = H1 at s1 eq ⊢
      have tk1 := TK.of_same s1
      have ev1 := s1 _ _ ev
      refine ⟨_, _, rfl, ?_⟩
      dsimp only
      refine ⟨_, rfl, rfl, false, fF (by decide), iteF ?_⟩
      refine ⟨_, rfl, l2, fun p0 n0 => ⟨p0, _, rfl, .inr (SqT.of upd_same), rfl, flat_map ["over made", "under made"], _, rfl, ?_⟩⟩
      rw [if_neg (by decide), show inV (.str "then made") [.str "over made", .str "under made"] = false by decide +kernel]
      have s0 := same_upd (o := .tup [.str "over made", .str "under made"]) n0
      generalize upd H1 p0 (.tup [.str "over made", .str "under made"]) = H2 at s0 ⊢
      have s2 := s1.trans s0
      have tk2 := TK.of_same s2
      have ev2 := s2 _ _ ev
      have eq2 := s0 _ _ eq
      refine iteF ⟨_, rfl, rfl, true, fT, iteT ?_⟩
      refine ⟨_, rfl, _, rfl, pp, _, _, _, rfl, rfl, SqT.of ev2, atI_nat (j := 2) rfl, x2, y, rfl, q2.mono tk2, by rw [h2]; rfl, by omega, by omega, by omega, fun v1 H3 s3 d1 => ?_⟩
      refine ⟨_, rfl, pp, _, _, _, rfl, rfl, SqT.of (s3 _ _ ev2), atI_nat (j := 1) rfl, x1, x, rfl, (q1.mono tk2).mono (TK.of_same s3), by rw [h1]; rfl, by omega, by omega, by omega, fun v2 H4 s4 d2 => ⟨l3, fun p3 n3 => ?_⟩⟩
      refine k _ _ (s2.trans (s3.trans (s4.trans (same_upd n3)))) ?_
      rw [ab_tm]
      exact dAt_3 (txtIs _ (by simp)) upd_same ((d1.mono (TK.of_same s4)).mono (TK.upd_new n3)) (d2.mono (TK.upd_new n3))
    | @tu p y ry _ h1 h2 =>
      cases hv with
      | @t pp vs _ ev hvs =>
      cases hvs with
      | @cons x0 _ _ _ q0 hvs =>
      cases hvs with
      | @cons x1 _ _ _ q1 hvs =>
      cases hvs with
      | @cons x2 _ _ _ q2 hvs =>
      cases hvs
      cases q0
      simp only [D.dep, depAll] at hn h60
      simp only [D.size, sizeAll] at hz
      refine ⟨_, rfl, pp, _, _, _, rfl, rfl, SqT.of ev, atI_nat (j := 0) rfl, fun q nq => ⟨upd_same, othKvs, rfl, by decide, ?_⟩⟩
      rw [upd_upd]
      have s1 : Same H (upd H q (.dK (mergeK [] othKvs))) := same_upd nq
      have eq : upd H q (.dK (mergeK [] othKvs)) q = some (.dK (mergeK [] othKvs)) := upd_same
      generalize upd H q (.dK (mergeK [] othKvs)) = H1 at s1 eq ⊢
      have tk1 := TK.of_same s1
      have ev1 := s1 _ _ ev
      refine ⟨_, _, rfl, ?_⟩
      dsimp only
      refine ⟨_, rfl, rfl, false, fF (by decide), iteF ?_⟩
      refine ⟨_, rfl, l2, fun p0 n0 => ⟨p0, _, rfl, .inr (SqT.of upd_same), rfl, flat_map ["over made", "under made"], _, rfl, ?_⟩⟩
      rw [if_neg (by decide), show inV (.str "then used") [.str "over made", .str "under made"] = false by decide +kernel]
      have s0 := same_upd (o := .tup [.str "over made", .str "under made"]) n0
      generalize upd H1 p0 (.tup [.str "over made", .str "under made"]) = H2 at s0 ⊢
      have s2 := s1.trans s0
      have tk2 := TK.of_same s2
      have ev2 := s2 _ _ ev
      have eq2 := s0 _ _ eq
      refine iteF ⟨_, rfl, rfl, false, fF (by decide), iteF ?_⟩
      cases q1
      refine ⟨_, rfl, _, rfl, pp, _, _, _, rfl, rfl, SqT.of ev2, atI_last rfl, x2, y, rfl, q2.mono tk2, by omega, by omega, by omega, fun v1 H3 s3 r1 => ?_⟩
      rw [h1] at r1
      obtain ⟨pr, Lr, us, g, rfl, er, eLr, hTr, _⟩ := r1
      refine ⟨pr, _, _, _, rfl, rfl, SqL.of er, atI_nat (j := 0) rfl, gN ?_⟩
      dsimp only
      have lr := hTr.length
      refine ⟨_, rfl, rfl, true, fT, iteT ⟨_, rfl, _, rfl, Lr, us, rfl, .inl (SqL.of eLr), _, rfl, pp, _, _, _, rfl, rfl, SqT.of (s3 _ _ ev2), atI_nat (j := 1) rfl, _, _, rfl, rfl, _, _, rfl, rfl, _, rfl, pp, _, _, _, rfl, rfl, SqT.of (s3 _ _ ev2), atI_nat (j := 2) rfl, x2, y, rfl, (q2.mono tk2).mono (TK.of_same s3), by rw [h1]; rfl, by omega, by omega, by omega, fun v2 H4 s4 d2 => ⟨l3, fun p3 n3 => ?_⟩⟩⟩
      refine k _ _ (s2.trans (s3.trans (s4.trans (same_upd n3)))) ?_
      have ew : wOf y.tl - 2 - p = (us.length : Int) - p - 2 := by
        rw [h1, lr]
        simp only [wOf]
        omega
      rw [ab_tu, ew]
      exact .t upd_same (.cons (.s (txtIs _ (by simp))) (.cons (.i _) (.cons (d2.mono (TK.upd_new n3)) .nil)))
    | @us nm p x y rx ry _ c h1 h2 h3 =>
      have cc := placed_cases c
      cases hv with
      | @t pp vs _ ev hvs =>
      cases hvs with
      | @cons x0 _ _ _ q0 hvs =>
      cases hvs with
      | @cons x1 _ _ _ q1 hvs =>
      cases hvs with
      | @cons x2 _ _ _ q2 hvs =>
      cases hvs with
      | @cons x3 _ _ _ q3 hvs =>
      cases hvs
      cases q0
      simp only [D.dep, depAll] at hn h60
      simp only [D.size, sizeAll] at hz
      refine ⟨_, rfl, pp, _, _, _, rfl, rfl, SqT.of ev, atI_nat (j := 0) rfl, fun q nq => ⟨upd_same, othKvs, rfl, by decide, ?_⟩⟩
      rw [upd_upd]
      have s1 : Same H (upd H q (.dK (mergeK [] othKvs))) := same_upd nq
      have eq : upd H q (.dK (mergeK [] othKvs)) q = some (.dK (mergeK [] othKvs)) := upd_same
      generalize upd H q (.dK (mergeK [] othKvs)) = H1 at s1 eq ⊢
      have tk1 := TK.of_same s1
      have ev1 := s1 _ _ ev
      refine ⟨_, _, rfl, ?_⟩
      dsimp only
      refine ⟨_, rfl, rfl, false, fF (by rcases cc with rfl | rfl | rfl <;> decide), iteF ?_⟩
      refine ⟨_, rfl, l2, fun p0 n0 => ⟨p0, _, rfl, .inr (SqT.of upd_same), rfl, flat_map ["over made", "under made"], _, rfl, ?_⟩⟩
      rw [if_neg (by decide), show inV (.str nm) [.str "over made", .str "under made"] = false by rcases cc with rfl | rfl | rfl <;> decide +kernel]
      have s0 := same_upd (o := .tup [.str "over made", .str "under made"]) n0
      generalize upd H1 p0 (.tup [.str "over made", .str "under made"]) = H2 at s0 ⊢
      have s2 := s1.trans s0
      have tk2 := TK.of_same s2
      have ev2 := s2 _ _ ev
      have eq2 := s0 _ _ eq
      refine iteF ⟨_, rfl, rfl, false, fF (by rcases cc with rfl | rfl | rfl <;> decide), iteF ?_⟩
      cases q1
      refine ⟨_, rfl, _, rfl, pp, _, _, _, rfl, rfl, SqT.of ev2, atI_last rfl, x3, y, rfl, q3.mono tk2, by omega, by omega, by omega, fun v1 H3 s3 r1 => ?_⟩
      rw [h2] at r1
      obtain ⟨pr, Lr, us, g, rfl, er, eLr, hTr, _⟩ := r1
      refine ⟨pr, _, _, _, rfl, rfl, SqL.of er, atI_nat (j := 0) rfl, gN ?_⟩
      dsimp only
      have lr := hTr.length
      have g1 := DGet.k (k := Sum.inr nm) (s3 _ _ eq2)
      rw [oth_get nm (by rcases cc with rfl | rfl | rfl <;> simp)] at g1
      have oko : TxtOk (oth nm) := by rcases cc with rfl | rfl | rfl <;> exact ⟨by decide +kernel, by decide +kernel⟩
      have ev3 := s3 _ _ ev2
      refine ⟨_, rfl, rfl, false, fF (by rcases cc with rfl | rfl | rfl <;> decide), iteF ?_⟩
      refine ⟨_, rfl, _, rfl, q, _, rfl, g1, _, rfl, Lr, us, rfl, .inl (SqL.of eLr), _, rfl, pp, _, _, _, rfl, rfl, SqT.of ev3, atI_nat (j := 1) rfl, _, _, rfl, rfl, _, _, rfl, rfl, ?_⟩
      refine ⟨_, rfl, pp, _, _, _, rfl, rfl, SqT.of ev3, atI_nat (j := 2) rfl, x2, x, rfl, (q2.mono tk2).mono (TK.of_same s3), by rw [h1]; rfl, by omega, by omega, by omega, fun v2 H4 s4 d2 => ?_⟩
      refine ⟨_, rfl, pp, _, _, _, rfl, rfl, SqT.of (s4 _ _ ev3), atI_nat (j := 3) rfl, x3, y, rfl, ((q3.mono tk2).mono (TK.of_same s3)).mono (TK.of_same s4), by rw [h2]; rfl, by omega, by omega, by omega, fun v3 H5 s5 d3 => ⟨by show 4 ≤ sizeLine; rw [sizeLine_eq]; omega, fun p3 n3 => ?_⟩⟩
      refine k _ _ (s2.trans (s3.trans (s4.trans (s5.trans (same_upd n3))))) ?_
      have ew : wOf y.tl - 1 - p = (us.length : Int) - p - 1 := by
        rw [h2, lr]
        simp only [wOf]
        omega
      rw [ab_us, ew]
      exact .t upd_same (.cons (.s oko) (.cons (.i _) (.cons ((d2.mono (TK.of_same s5)).mono (TK.upd_new n3)) (.cons (d3.mono (TK.upd_new n3)) .nil))))
theorem ok_about {f ft fl : Addr} {fd fdt fdl : FuncData} (T : Top K mg "_law_about" sLAbout pLAbout f fd) (TT : Top K mg "_law_tells" sLTells pLTells ft fdt) (TL : Top K mg "_law_turned" sLTurned pLTurned fl fdl) (B : Blt mg) (GT : ∀ n, FnOk P w K mg base CX0 (3 + 2 * n) ft fdt pLTells (spLTells n)) : ∀ n, n ≤ 60 → FnOk P w K mg base CX0 (3 + 2 * n) f fd pLAbout (spAbout n)
  | 0, _ => ((fn_vac (ps := pLAbout)).mono (by omega)).imp fun vs H Q E h => by
    obtain ⟨v, u, _, _, hs, hn, _⟩ := h
    obtain ⟨r, hr⟩ := Option.isSome_iff_exists.mp hs
    cases tl_inv hr <;> simp [D.dep] at hn
  | n + 1, h => (about_step (m := 3 + 2 * n) T TT TL B (ok_about T TT TL B GT n (by omega)) (GT n) ((ok_lturned TL B n (by omega)).mono (by omega))).mono (by omega)
end
end U6

namespace U6
open PySem PySem.Spec PyProof.Rows L2 NdefX LamX KT
open PySem.W (Frag)
/-- a knot that is no leaf, item by item -/
theorem lf_items {f : Ty → D} {u : D} {r : Told} (h : u.tl = some r) : (∃ x k, u = .t [.s "is", x] ∧ x.ty = some k) ∨ ∃ (nm : Str) (l : List D), nm ≠ "is" ∧ u = .t (.s nm :: l) ∧ l.length ≤ 3 ∧ u.lf f = .t ((D.s nm :: l).map fun d => if d.isTup = true then d.lf f else d) ∧ ∀ p ∈ D.s nm :: l, p.isTup = true → p ∈ u.parts := by
  cases tl_inv h with
  | @is x k hk => exact .inl ⟨x, k, rfl, hk⟩
  | @om x rx _ h1 h2 =>
    have q := tl_tup (show x.tl.isSome = true by rw [h1]; rfl)
    exact .inr ⟨_, _, by decide, rfl, by simp, by rw [lf_om]; simp only [List.map_cons, List.map_nil, q, if_true]; rfl, by simp [D.parts, D.isTup]⟩
  | @um x rx _ h1 h2 =>
    have q := tl_tup (show x.tl.isSome = true by rw [h1]; rfl)
    exact .inr ⟨_, _, by decide, rfl, by simp, by rw [lf_um]; simp only [List.map_cons, List.map_nil, q, if_true]; rfl, by simp [D.parts, D.isTup]⟩
  | @tm x y rx ry h1 h2 =>
    have q := tl_tup (show x.tl.isSome = true by rw [h1]; rfl)
    have q' := tl_tup (show y.tl.isSome = true by rw [h2]; rfl)
    exact .inr ⟨_, _, by decide, rfl, by simp, by rw [lf_tm]; simp only [List.map_cons, List.map_nil, q, q', if_true]; rfl, by simp [D.parts, D.isTup]⟩
  | @tu p y ry _ h1 h2 =>
    have q' := tl_tup (show y.tl.isSome = true by rw [h1]; rfl)
    exact .inr ⟨_, _, by decide, rfl, by simp, by rw [lf_tu]; simp only [List.map_cons, List.map_nil, q', if_true]; rfl, by simp [D.parts, D.isTup]⟩
  | @us nm p x y rx ry _ c h1 h2 h3 =>
    have cc := placed_cases c
    have q := tl_tup (show x.tl.isSome = true by rw [h1]; rfl)
    have q' := tl_tup (show y.tl.isSome = true by rw [h2]; rfl)
    exact .inr ⟨nm, _, by rcases cc with rfl | rfl | rfl <;> decide, rfl, by simp, by rw [lf_us]; simp only [List.map_cons, List.map_nil, q, q', if_true]; rfl, by simp [D.parts, D.isTup]⟩
theorem parts_ne {nm : Str} {l : List D} {r : Told} (h : (D.t (.s nm :: l)).tl = some r) (hne : nm ≠ "is") : (D.t (.s nm :: l)).parts ≠ [] := by
  cases tl_inv h with
  | is hk => exact absurd rfl hne
  | om h1 h2 => simp [D.parts]
  | um h1 h2 => simp [D.parts]
  | tm h1 h2 => simp [D.parts]
  | tu h1 h2 => simp [D.parts]
  | us c h1 h2 h3 => simp [D.parts]
section
variable {P : Program} {w : World} {K : Frag} {mg : Str → Option Value} {base : Heap}
def LeafIn (H : Hp) (kvs : List (Key × V)) (m : Str → Ty) (u : D) : Prop := ∀ k ∈ leaves u, ∀ z ∈ k.words, ∃ x, valV kvs (Sum.inr z) = some x ∧ TyAt H x (m z)
theorem LeafIn.mono {H H' : Hp} {kvs : List (Key × V)} {m : Str → Ty} {u : D} (h : LeafIn H kvs m u) (t : TK H H') : LeafIn H' kvs m u := fun k hk z hz => by
  obtain ⟨x, h1, h2⟩ := h k hk z hz
  exact ⟨x, h1, h2.mono t⟩
def spPutAll (n : Nat) : Sp := fun vs H Q _ => ∃ (v : V) (u : D) (a : Addr) (kvs : List (Key × V)) (m : Str → Ty), vs = [v, .ref a] ∧ DAt H v u ∧ u.tl.isSome = true ∧ u.dep ≤ n ∧ u.dep ≤ 60 ∧ u.size ≤ 40000 ∧ H a = some (.dK kvs) ∧ LeafIn H kvs m u ∧ ∀ v' H', Same H H' → DAt H' v' (u.lf (puD m)) → Q v' H'
theorem putAll_step {f fl : Addr} {fd fdl : FuncData} (T : Top K mg "_law_put_all" sLPutAll pLPutAll f fd) (TL : Top K mg "_law_put" sLPut pLPut fl fdl) (B : Blt mg) {n m : Nat} (GP : FnOk P w K mg base CX0 m f fd pLPutAll (spPutAll n)) (GL : FnOk P w K mg base CX0 m fl fdl pLPut (spLPut n)) : FnOk P w K mg base CX0 (m + 1) f fd pLPutAll (spPutAll (n + 1)) := by
  refine T.F.ok scLPutAll (fun vs H Q E h => ?_) (fun cdv A outer s H vs Q E hr h => ?_)
  · obtain ⟨_, _, _, _, _, rfl, _⟩ := h
    rfl
  · obtain ⟨v, u, a, kvs, mm, rfl, hv, hsome, hn, h60, hz, ea, hlf, k⟩ := h
    refine ⟨_, (pss_cons (ps_if (pt_cmpR op_eq (pe_ix ix_tup (pv 0) pe_int (fun _ _ => rfl)) pe_str (nomark _)) (pss_one (ps_ret (pe_tup (pa_cons pe_str (pa_cons (pe_call GL hr rfl TL.g TL.F.kp TL.b .nil pass0 (pa_cons (pe_ix ix_tup (pv 0) pe_int (fun _ _ => rfl)) (pa_cons (pv 1) pa_nil))) pa_nil))))) pss_nil)
      (pss_one (ps_ret (pe_callTy call_tuple_of (by rfl) B.tuple (by decide +kernel) (pa_cons (pe_lc (own := [("part", 2)]) (g := (gName 2)) (tt := tYes) rfl scLPutAll.nd (pi_tup (pv 0)) (blkOk_by (N := nLPutAll) (sc := defScope sLPutAll) (by decide +kernel)) (fun _ _ _ _ _ => pg_name (i := 2) scLPutAll.nd rfl (Or.inl rfl)) (fun _ _ _ _ _ => pts_nil) (fun _ _ _ _ _ => (pe_ifExp (pt_val (pe_callB (show CallR _ (.builtin "isinstance") (rIsi K) from call_isi) (by rfl) B.isi (by decide +kernel) (pa_cons (pv 2) (pa_cons (pe_bltn (v := .ty "tuple") (by rfl) B.tuple (by decide +kernel) rfl) pa_nil)))) (pe_call GP hr rfl T.g T.F.kp T.b .nil pass0 (pa_cons (pv 2) (pa_cons (pv 1) pa_nil))) (pv 2)))) pa_nil))))), ?_⟩
    obtain ⟨r, hr'⟩ := Option.isSome_iff_exists.mp hsome
    rcases lf_items (f := puD mm) hr' with ⟨x, kk, rfl, hk1⟩ | ⟨nm, l, hne, rfl, ll, el, hpp⟩
    · cases hv with
      | @t pp vs _ ev hvs =>
      cases hvs with
      | @cons x0 _ _ _ q0 hvs =>
      cases hvs with
      | @cons x1 _ _ _ q1 hvs =>
      cases hvs
      cases q0
      have ed := D.ty_d hk1
      simp only [D.dep, depAll] at hn
      rw [lf_is hk1] at k
      refine ⟨_, rfl, pp, _, _, _, rfl, rfl, SqT.of ev, atI_nat (j := 0) rfl, rfl, true, congrArg V.bl (decide_eq_true rfl), iteT ?_⟩
      refine ⟨_, rfl, pp, _, _, _, rfl, rfl, SqT.of ev, atI_nat (j := 1) rfl, _, rfl, x1, kk, a, kvs, mm, rfl, q1.ty hk1, by rw [ed]; omega, ea, fun z hz => hlf kk (by rw [leaves_is hk1]; exact List.mem_cons_self) z hz, fun v1 H1 s1 d1 => ⟨by show 2 ≤ sizeLine; rw [sizeLine_eq]; omega, fun q nq => ?_⟩⟩
      exact k _ _ (s1.trans (same_upd nq)) (dAt_is upd_same (d1.d.mono (TK.upd_new nq)))
    · cases hv with
      | @t pp vs _ ev hvs =>
      have hv0 := hvs
      cases hvs with
      | @cons x0 _ _ _ q0 hvs =>
      cases q0
      have lx := hv0.length
      refine ⟨_, rfl, pp, _, _, _, rfl, rfl, SqT.of ev, atI_nat (j := 0) rfl, rfl, false, congrArg V.bl (decide_eq_false fun e => hne (by injection e)), iteF ?_⟩
      refine ⟨_, rfl, pp, rfl, ⟨_, SqT.of ev⟩, fun W hW => ?_⟩
      refine lc_tup (K := K) (xs := _) (fun i H' => Same H H' ∧ ∃ ys, H' W = some (.lst ys) ∧ DsAt H' ys (((D.s nm :: l).map fun d => if d.isTup = true then d.lf (puD mm) else d).take i)) ⟨same_upd hW, [], upd_same, by rw [List.take_zero]; exact .nil⟩ (fun i H' _ q => SqT.of (q.1 _ _ ev)) ?_ ?_
      · rintro i x H' hx ⟨sI, ys, eW, hys⟩
        obtain ⟨u, hu, hxu⟩ := hv0.at_ hx
        have mu := List.mem_of_getElem? hu
        have ly := hys.length
        rw [List.length_take] at ly
        have snoc : ((D.s nm :: l).map fun d => if d.isTup = true then d.lf (puD mm) else d).take (i + 1) = ((D.s nm :: l).map fun d => if d.isTup = true then d.lf (puD mm) else d).take i ++ [if u.isTup = true then u.lf (puD mm) else u] := by
          rw [List.take_add_one, List.getElem?_map, hu]
          rfl
        obtain ⟨hi, _⟩ := List.getElem?_eq_some_iff.mp hu
        rw [List.length_cons] at hi
        have hxu' := hxu.mono (TK.of_same sI)
        refine ⟨rfl, _, rfl, x, .ty "tuple", _, _, u.isTup, rfl, .ty "tuple", hxu'.tyx, u.ktup, _, rfl, ?_⟩
        cases ct : u.isTup with
        | true =>
          rw [ct, if_pos rfl] at snoc
          have hn' : depAll (.s nm :: l) + 1 ≤ n + 1 := hn
          have hz' : sizeAll (.s nm :: l) + 1 ≤ 40000 := by simpa [D.size] using hz
          have h60' : depAll (.s nm :: l) + 1 ≤ 60 := h60
          have q1 := dep_mem mu
          have q2 := size_mem mu
          have mp := hpp u mu ct
          refine iteT ⟨_, rfl, _, rfl, x, u, a, kvs, mm, rfl, hxu', tl_parts hr' u mp, by omega, by omega, by omega, sI _ _ ea, fun k' hk' => (hlf.mono (TK.of_same sI)) k' ((leaves_mem hr' hne k').mpr ⟨u, mp, hk'⟩), fun v1 H2 s2 d1 => ⟨ys, s2 _ _ eW, by rw [sizeLine_eq]; omega, same_over (sI.trans s2) hW, ys ++ [v1], upd_same, ?_⟩⟩
          have tkw : TK H2 (upd H2 W (.lst (ys ++ [v1]))) := TK.upd_lst (s2 _ _ eW)
          rw [snoc]
          exact (hys.mono ((TK.of_same s2).trans tkw)).append (.cons (d1.mono tkw) .nil)
        | false =>
          rw [ct, if_neg (by decide)] at snoc
          refine iteF ⟨_, rfl, ys, eW, by rw [sizeLine_eq]; omega, same_over sI hW, ys ++ [x], upd_same, ?_⟩
          have tkw : TK H' (upd H' W (.lst (ys ++ [x]))) := TK.upd_lst eW
          rw [snoc]
          exact (hys.mono tkw).append (.cons (hxu'.mono tkw) .nil)
      · rintro H' ⟨sI, ys, eW, hys⟩
        rw [lx, ← List.length_map (f := fun d => if D.isTup d = true then d.lf (puD mm) else d), List.take_length] at hys
        refine ⟨W, ys, rfl, .inl ⟨SqL.of eW, fun q nq => k _ _ (sI.trans (same_upd nq)) ?_⟩⟩
        rw [el]
        exact .t upd_same (hys.mono (TK.upd_new nq))
theorem ok_putAll {f fl : Addr} {fd fdl : FuncData} (T : Top K mg "_law_put_all" sLPutAll pLPutAll f fd) (TL : Top K mg "_law_put" sLPut pLPut fl fdl) (B : Blt mg) : ∀ n, n ≤ 60 → FnOk P w K mg base CX0 (1 + n) f fd pLPutAll (spPutAll n)
  | 0, _ => ((fn_vac (ps := pLPutAll)).mono (by omega)).imp fun vs H Q E h => by
    obtain ⟨v, u, _, _, _, _, _, hs, hn, _⟩ := h
    obtain ⟨r, hr⟩ := Option.isSome_iff_exists.mp hs
    cases tl_inv hr <;> simp [D.dep] at hn
  | n + 1, h => putAll_step (m := 1 + n) T TL B (ok_putAll T TL B n (by omega)) (ok_lput TL B n (by omega))
/-- the types at the leaves, in some order -/
def spEnds (n : Nat) : Sp := fun vs H Q _ => ∃ (v : V) (u : D), vs = [v] ∧ DAt H v u ∧ u.tl.isSome = true ∧ u.dep ≤ n ∧ u.dep ≤ 60 ∧ u.size ≤ 40000 ∧ ∀ (L : Addr) (us : List V) (ts : List Ty) (H' : Hp), Same H H' → H L = none → H' L = some (.lst us) → Tys H' us ts → (∀ t, t ∈ ts ↔ t ∈ leaves u) → sizes ts ≤ u.size → Q (.ref L) H'
theorem ends_step {f fi : Addr} {fd fdi : FuncData} (T : Top K mg "_law_ends" sLEnds pLEnds f fd) (TI : Top K mg "_law_inner" sLInner pLInner fi fdi) (B : Blt mg) {n m : Nat} (hm : 1 ≤ m) (GP : FnOk P w K mg base CX0 m f fd pLEnds (spEnds n)) : FnOk P w K mg base CX0 (m + 1) f fd pLEnds (spEnds (n + 1)) := by
  have GI : FnOk P w K mg base CX0 1 fi fdi pLInner spInner := ok_inner TI B
  refine T.F.ok scLEnds (fun vs H Q E h => ?_) (fun cdv A outer s H vs Q E hr h => ?_)
  · obtain ⟨_, _, rfl, _⟩ := h
    rfl
  · obtain ⟨v, u, rfl, hv, hsome, hn, h60, hz, k⟩ := h
    have hr1 : Room 1 _ := hr.mono hm
    refine ⟨_, pss_one (ps_ret (pe_ifExp (pt_cmpR op_eq (pe_ix ix_tup (pv 0) pe_int (fun _ _ => rfl)) pe_str (nomark _)) (pe_lst (pa_cons (pe_ix ix_tup (pv 0) pe_int (fun _ _ => rfl)) pa_nil)) (pe_callB (cr_sumL rfl) (by rfl) B.sum (by decide +kernel) (pa_cons (pe_lc (own := [("part", 1)]) (g := gName 1) (tt := tYes) rfl scLEnds.nd (pi_list (pe_call GI hr1 rfl TI.g TI.F.kp TI.b .nil pass0 (pa_cons (pv 0) pa_nil))) (blkOk_by (N := nLEnds) (sc := defScope sLEnds) (by decide +kernel)) (fun _ _ _ _ _ => pg_name (i := 1) scLEnds.nd rfl (Or.inl rfl)) (fun _ _ _ _ _ => pts_nil) (fun _ _ _ _ _ => (pe_call GP hr rfl T.g T.F.kp T.b .nil pass0 (pa_cons (pv 1) pa_nil)))) (pa_cons (pe_lst pa_nil) pa_nil))))), ?_⟩
    obtain ⟨r, hr'⟩ := Option.isSome_iff_exists.mp hsome
    have f0 := (allK_fm (tl_allK _ _ r (Nat.le_refl _) hr')).1
    rcases lf_items (f := opD) hr' with ⟨x, kk, rfl, hk1⟩ | ⟨nm, l, hne, rfl, ll, el, hpp⟩
    · cases hv with
      | @t pp vs _ ev hvs =>
      cases hvs with
      | @cons x0 _ _ _ q0 hvs =>
      cases hvs with
      | @cons x1 _ _ _ q1 hvs =>
      cases hvs
      cases q0
      refine ⟨_, rfl, pp, _, _, _, rfl, rfl, SqT.of ev, atI_nat (j := 0) rfl, rfl, true, congrArg V.bl (decide_eq_true rfl), iteT ?_⟩
      refine ⟨_, rfl, pp, _, _, _, rfl, rfl, SqT.of ev, atI_nat (j := 1) rfl, by show 1 ≤ sizeLine; rw [sizeLine_eq]; omega, fun L nL => ?_⟩
      refine k L [x1] [kk] _ (same_upd nL) nL upd_same (.cons ((q1.ty hk1).mono (TK.upd_new nL)) .nil) (fun t => by rw [leaves_is hk1]) ?_
      have := ty_size hk1
      simp only [sizes, D.size, sizeAll]
      omega
    · cases hv with
      | @t pp vs _ ev hvs =>
      have hv0 : DAt H (.ref pp) (.t (.s nm :: l)) := .t ev hvs
      cases hvs with
      | @cons x0 _ _ _ q0 hvs =>
      cases q0
      refine ⟨_, rfl, pp, _, _, _, rfl, rfl, SqT.of ev, atI_nat (j := 0) rfl, rfl, false, congrArg V.bl (decide_eq_false fun e => hne (by injection e)), iteF ?_⟩
      refine ⟨_, rfl, .ref pp, _, rfl, hv0, f0, hz, fun p hp => tl_tup (tl_parts hr' p hp), fun L us H1 s1 nL eL hU => ⟨L, rfl, ⟨_, SqL.of eL⟩, fun W hW => ?_⟩⟩
      have lU := hU.length
      have pne := parts_ne hr' hne
      have psz := f0.psize.1
      have pl := f0.psize.2
      refine lc_list (K := K) (xs := us) (fun i H' => Same H1 H' ∧ ∃ (as : List Addr) (yss : List (List V)) (ts : List Ty), H' W = some (.lst (as.map V.ref)) ∧ Paired (fun (a : Addr) (ys : List V) => a ≠ W ∧ H' a = some (.lst ys)) as yss ∧ as.length = i ∧ Tys H' yss.flatten ts ∧ (∀ t, t ∈ ts ↔ ∃ p ∈ (D.t (.s nm :: l)).parts.take i, t ∈ leaves p) ∧ sizes ts ≤ sizeAll ((D.t (.s nm :: l)).parts.take i))
        ⟨same_upd hW, [], [], [], upd_same, .nil, rfl, .nil, fun t => by simp, by simp [sizes]⟩ (fun i H' _ q => SqL.of (q.1 _ _ eL)) ?_ ?_
      · rintro i x H' hx ⟨sI, as, yss, ts, eW, hp, la, hT, hmem, hsz⟩
        obtain ⟨u, hu, hxu⟩ := hU.at_ hx
        have mu := List.mem_of_getElem? hu
        obtain ⟨hi, _⟩ := List.getElem?_eq_some_iff.mp hu
        have q1 := dep_lt f0 u mu
        have q2 := size_mem mu
        refine ⟨rfl, _, rfl, x, u, rfl, hxu.mono (TK.of_same sI), tl_parts hr' u mu, by omega, by omega, by omega, fun M2 us2 ts2 H2 s2 nL2 eL2 hT2 hm2 hz2 => ?_⟩
        have nLW : M2 ≠ W := fun z => by rw [z, eW] at nL2; cases nL2
        refine ⟨_, s2 _ _ eW, by rw [List.length_map, sizeLine_eq]; omega, same_over (sI.trans s2) hW, as ++ [M2], yss ++ [us2], ts ++ ts2, by rw [upd_same, List.map_append]; rfl, ?_, by simp [la], ?_, fun t => ?_, ?_⟩
        · refine Paired.snoc (L2.Paired.mapP hp fun a ys q => ⟨q.1, ?_⟩) ⟨nLW, ?_⟩
          · rw [upd_ne q.1]
            exact s2 _ _ q.2
          · rw [upd_ne nLW]
            exact eL2
        · have tkw : TK H2 (upd H2 W (.lst (as.map V.ref ++ [.ref M2]))) := TK.upd_lst (s2 _ _ eW)
          rw [List.flatten_append, List.flatten_cons, List.flatten_nil, List.append_nil]
          exact (hT.mono ((TK.of_same s2).trans tkw)).append (hT2.mono tkw)
        · rw [List.mem_append, hmem, hm2, List.take_add_one, hu]
          simp only [Option.toList_some, List.mem_append, List.mem_singleton]
          constructor
          · rintro (⟨p, h1, h2⟩ | h)
            · exact ⟨p, .inl h1, h2⟩
            · exact ⟨u, .inr rfl, h⟩
          · rintro ⟨p, h1 | h1, h2⟩
            · exact .inl ⟨p, h1, h2⟩
            · rw [h1] at h2; exact .inr h2
        · rw [sizes_app, List.take_add_one, hu, sizeAll_app]
          simp only [Option.toList_some, sizeAll]
          omega
      · rintro H' ⟨sI, as, yss, ts, eW, hp, la, hT, hmem, hsz⟩
        rw [lU, List.take_length] at hmem hsz
        refine ⟨by show 0 ≤ sizeLine; exact Nat.zero_le _, fun e he => ?_⟩
        have s2 := same_upd (o := .lst []) he
        have lT := hT.length
        have lss := sizes_len ts
        refine ⟨W, e, as, yss, rfl, s2 _ _ eW, upd_same, fun z => ?_, L2.Paired.mapP hp fun a ys q => s2 _ _ q.2, by rw [lT, sizeLine_eq]; omega, fun p np => ?_⟩
        · rw [z] at la
          rw [lU] at la
          exact pne (List.eq_nil_of_length_eq_zero la.symm)
        · have sF := (s1.trans sI).trans s2
          refine k p _ ts _ (sF.trans (same_upd np)) (sF.free np) upd_same ((hT.mono (TK.of_same s2)).mono (TK.upd_new np)) (fun t => ?_) (by omega)
          rw [hmem, leaves_mem hr' hne]
theorem ok_ends {f fi : Addr} {fd fdi : FuncData} (T : Top K mg "_law_ends" sLEnds pLEnds f fd) (TI : Top K mg "_law_inner" sLInner pLInner fi fdi) (B : Blt mg) : ∀ n, FnOk P w K mg base CX0 (1 + n) f fd pLEnds (spEnds n)
  | 0 => ((fn_vac (ps := pLEnds)).mono (by omega)).imp fun vs H Q E h => by
    obtain ⟨v, u, _, _, hs, hn, _⟩ := h
    obtain ⟨r, hr⟩ := Option.isSome_iff_exists.mp hs
    cases tl_inv hr <;> simp [D.dep] at hn
  | n + 1 => ends_step (m := 1 + n) T TI B (by omega) (ok_ends T TI B n)
end
end U6

namespace U6
open PySem PySem.Spec PyProof.Rows L2 NdefX LamX KT
open PySem.W (Frag)
/-! ### dictionaries of pairs -/
theorem putK_old {kvs : List (Key × V)} {k : Key} {x : V} (h : k ∈ kvs.map (·.1)) : (putK kvs k x).map (·.1) = kvs.map (·.1) := by
  have e : (kvs.any fun kv => decide (kv.1 = k)) = true := by
    obtain ⟨p, h1, h2⟩ := List.mem_map.mp h
    exact List.any_eq_true.mpr ⟨p, h1, decide_eq_true h2⟩
  unfold putK
  rw [if_pos e, List.map_map]
  refine List.map_congr_left fun p _ => ?_
  show (if p.1 = k then (p.1, x) else p).1 = p.1
  split <;> rfl
theorem putK_new {kvs : List (Key × V)} {k : Key} {x : V} (h : k ∉ kvs.map (·.1)) : putK kvs k x = kvs ++ [(k, x)] := by
  unfold putK
  rw [if_neg]
  intro z
  obtain ⟨q, h1, h2⟩ := List.any_eq_true.mp z
  exact h (List.mem_map.mpr ⟨q, h1, of_decide_eq_true h2⟩)
theorem merge_keys (f : Str → V) : ∀ (zs : List Str) (kvs : List (Key × V)) (ks : List Str), kvs.map (·.1) = ks.map Sum.inr → ks.Nodup →
    ∃ ks' : List Str, (mergeK kvs (zs.map fun z => (Sum.inr z, f z))).map (·.1) = ks'.map Sum.inr ∧ ks'.Nodup ∧ (∀ z, z ∈ ks' ↔ z ∈ ks ∨ z ∈ zs) ∧ ks'.length ≤ ks.length + zs.length
  | [], kvs, ks, h, n => ⟨ks, h, n, fun z => by simp, by simp⟩
  | y :: zs, kvs, ks, h, n => by
    by_cases m : (Sum.inr y : Key) ∈ ks.map Sum.inr
    · have e := putK_old (kvs := kvs) (x := f y) (h ▸ m)
      rw [h] at e
      obtain ⟨ks', h1, h2, h3, h4⟩ := merge_keys f zs _ ks e n
      obtain ⟨y', hy, ey⟩ := List.mem_map.mp m
      have ey : y' = y := Sum.inr.inj ey
      subst ey
      refine ⟨ks', h1, h2, fun z => (h3 z).trans ?_, by simp only [List.length_cons]; omega⟩
      simp only [List.mem_cons]
      constructor
      · rintro (h | h)
        · exact .inl h
        · exact .inr (.inr h)
      · rintro (h | h | h)
        · exact .inl h
        · rw [h]; exact .inl hy
        · exact .inr h
    · have e : (putK kvs (Sum.inr y) (f y)).map (·.1) = ks.map Sum.inr ++ [Sum.inr y] := by rw [putK_new (h ▸ m), List.map_append, h]; rfl
      have ny : y ∉ ks := fun q => m (List.mem_map.mpr ⟨y, q, rfl⟩)
      obtain ⟨ks', h1, h2, h3, h4⟩ := merge_keys f zs _ (ks ++ [y]) (by rw [e, List.map_append]; rfl) (nodup_snoc n ny)
      refine ⟨ks', h1, h2, fun z => (h3 z).trans ?_, by simp only [List.length_append, List.length_cons, List.length_nil] at h4 ⊢; omega⟩
      simp only [List.mem_append, List.mem_cons, List.mem_singleton, List.not_mem_nil, or_false, or_assoc]
theorem mergeK_nd : ∀ (more acc : List (Key × V)), ((acc ++ more).map (·.1)).Nodup → mergeK acc more = acc ++ more
  | [], acc, _ => by simp [mergeK]
  | p :: r, acc, h => by
    have n : p.1 ∉ acc.map (·.1) := fun m => by
      rw [List.map_append, List.nodup_append] at h
      exact h.2.2 p.1 m p.1 (by simp) rfl
    have e : putK acc p.1 p.2 = acc ++ [p] := putK_new n
    show mergeK (putK acc p.1 p.2) r = _
    rw [e, mergeK_nd r (acc ++ [p]) (by rw [List.append_assoc]; exact h), List.append_assoc]
    rfl
section
variable {P : Program} {w : World} {K : Frag} {mg : Str → Option Value} {base : Heap}
def spShuffled : Sp := fun vs H Q _ => ∃ (a L : Addr) (n : Nat) (ws : List Str), vs = [.ref a, .ref L] ∧ PurseAt H a n ∧ n ≤ 500000000000 ∧ L ≠ a ∧ H L = some (.lst (ws.map V.str)) ∧ ws.length ≤ 1000 ∧
  ∀ (R : Addr) (ys : List Str) (H' : Hp), ys.Perm ws → KeepBut a H H' → H R = none → H' R = some (.lst (ys.map V.str)) → PurseAt H' a (n + ws.length) → Q (.ref R) H'
theorem ok_shuffled {f fd_ fm : Addr} {fd fdd fdm : FuncData} (T : Top K mg "_law_shuffled" sLShuffled pLShuffled f fd) (TD : Top K mg "_law_draw" sLDraw ["purse", "many"] fd_ fdd) (TM : Top K mg "_law_mixed" sLMixed ["seed", "spin", "at"] fm fdm) (B : Blt mg) :
    FnOk P w K mg base CX0 3 f fd pLShuffled spShuffled := by
  have GD : FnOk P w K mg base CX0 2 fd_ fdd ["purse", "many"] spDraw := ok_draw TD TM B
  refine T.F.ok scLShuffled (fun vs H Q E h => ?_) (fun cdv A outer s H vs Q E hr h => ?_)
  · obtain ⟨_, _, _, _, rfl, _⟩ := h
    rfl
  · obtain ⟨a, L, n, ws, rfl, hp, hn, nLa, eL, hz, k⟩ := h
    refine ⟨_, (pss_cons (ps_set (i := 2) scLShuffled.nd rfl (Or.inl rfl) (pe_lst pa_nil))
      (pss_cons (ps_for PassesOwn.never rfl (pi_list (pv 1)) (pg_name (i := 3) scLShuffled.nd rfl (Or.inl rfl))
        (pss_one (ps_expr (pe_bm PySem.F.plainAttrs_list PySem.F.slot_list_insert PySem.F.type_list_insert mt_insert (pv 2) (pa_cons (pe_call GD hr rfl TD.g TD.F.kp TD.b .nil pass0 (pa_cons (pv 0) (pa_cons (pe_op op_add (pe_callB call_len_seq (by rfl) B.len PySem.boot_len (pa_cons (pv 2) pa_nil)) pe_int) pa_nil))) (pa_cons (pv 3) pa_nil))))))
      (pss_one (ps_ret (pv 2))))), ?_⟩
    refine ⟨by show 0 ≤ sizeLine; exact Nat.zero_le _, fun R hR => ?_⟩
    have naR := hp.ne hR
    have nLR : L ≠ R := ne_of_none eL hR
    refine ⟨_, rfl, L, rfl, ⟨_, SqL.of (by rw [upd_ne nLR]; exact eL)⟩, ?_⟩
    refine for_list (K := K) (xs := ws.map V.str) (fun i σ H' => ∃ (v3 : Option V) (ys : List Str), σ = [some (.ref a), some (.ref L), some (.ref R), v3] ∧ ys.Perm (ws.take i) ∧ KeepBut a H H' ∧ H' R = some (.lst (ys.map V.str)) ∧ PurseAt H' a (n + i))
      ⟨none, [], rfl, by simp, (KeepBut.refl a H).upd_new hR, upd_same, hp.upd naR⟩ ?_ ?_ ?_
    · rintro i σ H' _ ⟨v3, ys, rfl, pm, kb, eR, hp'⟩
      exact SqL.of (kb _ _ eL nLa)
    · rintro i x σ H' hx ⟨v3, ys, rfl, pm, kb, eR, hp'⟩
      rw [List.getElem?_map] at hx
      obtain ⟨z, hzi, rfl⟩ := Option.map_eq_some_iff.mp hx
      obtain ⟨hi, _⟩ := List.getElem?_eq_some_iff.mp hzi
      have ly := pm.length_eq
      rw [List.length_take] at ly
      refine ⟨_, rfl, .inl ⟨rfl, _, SqL.of eR⟩, _, rfl, _, rfl, R, _, rfl, .inl (SqL.of eR), _, _, rfl, rfl, a, n + i, _, rfl, hp', by omega, by rw [List.length_map]; omega, by rw [List.length_map]; omega, fun d H2 c0 c1 off2 hp2 => ?_⟩
      rw [List.length_map] at c1
      refine ⟨_, rfl, R, _, d, _, rfl, rfl, by rw [off2 R naR.symm]; exact eR, by rw [List.length_map, sizeLine_eq]; omega, c0, by omega, ?_⟩
      refine ⟨_, ys.take d.toNat ++ [z] ++ ys.drop d.toNat, rfl, ?_, (kb.trans (.of_off off2)).upd_new hR, by rw [upd_same]; simp, (hp2.upd naR)⟩
      have q1 : (ys.take d.toNat ++ [z] ++ ys.drop d.toNat).Perm (ys ++ [z]) := by
        have q : (ys.take d.toNat ++ [z] ++ ys.drop d.toNat).Perm (ys.take d.toNat ++ (ys.drop d.toNat ++ [z])) := by
          rw [List.append_assoc]
          exact List.Perm.append_left _ List.perm_append_comm
        rw [← List.append_assoc, List.take_append_drop] at q
        exact q
      rw [List.take_add_one, hzi]
      exact q1.trans (pm.append_right _)
    · rintro σ H' ⟨v3, ys, rfl, pm, kb, eR, hp'⟩
      rw [List.length_map] at hp' pm
      rw [List.take_length] at pm
      exact ⟨_, rfl, k R ys H' pm kb hR eR hp'⟩
def wordsAll (ts : List Ty) : List Str := ts.flatMap Ty.words
def spPlainWords : Sp := fun vs H Q _ => ∃ (L : Addr) (us : List V) (ts : List Ty), vs = [.ref L] ∧ H L = some (.lst us) ∧ Tys H us ts ∧ ts ≠ [] ∧ (∀ t ∈ ts, t.d.dep ≤ 30 ∧ t.signs ≤ 2000) ∧ (wordsAll ts).length ≤ 100000 ∧ (∃ zs : List Str, zs.length < 64 ∧ ∀ t ∈ ts, ∀ z ∈ t.words, z ∈ zs) ∧
  ∀ (R : Addr) (ys : List Str) (H' : Hp), PlainsOf ys ts → Same H H' → H R = none → H' R = some (.lst (ys.map V.str)) → Q (.ref R) H'
theorem flat_words (ts : List Ty) : (ts.map fun t => t.words.map V.str).flatten = (wordsAll ts).map V.str := by
  induction ts with
  | nil => rfl
  | cons t ts ih => rw [List.map_cons, List.flatten_cons, ih, wordsAll, wordsAll, List.flatMap_cons, List.map_append]
theorem ok_plainWords {f fl : Addr} {fd fdl : FuncData} (T : Top K mg "_law_plain_words" sLPlainWords pLPlainWords f fd) (TL : Top K mg "_law_plain_list" sLPlainList pLPlainList fl fdl) (B : Blt mg) : FnOk P w K mg base CX0 32 f fd pLPlainWords spPlainWords := by
  have GL : FnOk P w K mg base CX0 31 fl fdl pLPlainList (spPlainList 30) := ok_plainList TL B 30 (by omega)
  refine T.F.ok scLPlainWords (fun vs H Q E h => ?_) (fun cdv A outer s H vs Q E hr h => ?_)
  · obtain ⟨_, _, _, rfl, _⟩ := h
    rfl
  · obtain ⟨L, us, ts, rfl, eL, hT, hne, hd, hz, hzs, k⟩ := h
    refine ⟨_, pss_one (ps_ret (pe_callB (call_sortedD rfl) (by rfl) B.sorted (by decide +kernel) (pa_cons (pe_callTy (call_dictP rfl) (by rfl) B.dict (by decide +kernel) (pa_cons
      (pe_lc (own := [("word", 1)]) (g := gName 1) (tt := tYes) rfl scLPlainWords.nd (pi_list (pe_callB (cr_sumL rfl) (by rfl) B.sum (by decide +kernel) (pa_cons (pe_lc (own := [("kind", 2)]) (g := gName 2) (tt := tYes) rfl scLPlainWords.nd (pi_list (pv 0)) (blkOk_by (N := nLPlainWords) (sc := defScope sLPlainWords) (by decide +kernel)) (fun _ _ _ _ _ => pg_name (i := 2) scLPlainWords.nd rfl (Or.inl rfl)) (fun _ _ _ _ _ => pts_nil) (fun _ _ _ _ _ => (pe_call GL hr rfl TL.g TL.F.kp TL.b .nil pass0 (pa_cons (pv 2) pa_nil)))) (pa_cons (pe_lst pa_nil) pa_nil)))) (blkOk_by (N := nLPlainWords) (sc := defScope sLPlainWords) (by decide +kernel)) (fun _ _ _ _ _ => pg_name (i := 1) scLPlainWords.nd rfl (Or.inl rfl)) (fun _ _ _ _ _ => pts_nil) (fun _ _ _ _ _ => (pe_tup (pa_cons (pv 1) (pa_cons pe_bl pa_nil))))) pa_nil)) pa_nil))), ?_⟩
    refine ⟨_, rfl, L, rfl, ⟨_, SqL.of eL⟩, fun D hD => ?_⟩
    have lT := hT.length
    refine lc_list (K := K) (xs := us) (fun i H' => Same H H' ∧ ∃ as : List Addr, H' D = some (.lst (as.map V.ref)) ∧ Paired (fun (a : Addr) (ys : List V) => a ≠ D ∧ H' a = some (.lst ys)) as ((ts.take i).map fun t => t.words.map V.str))
      ⟨same_upd hD, [], upd_same, by rw [List.take_zero]; exact .nil⟩ (fun i H' _ q => SqL.of (q.1 _ _ eL)) ?_ ?_
    · rintro i x H1 hx ⟨s1, as, eD, hp⟩
      obtain ⟨t, ht, hxt⟩ := hT.at_ hx
      have lp := hp.length
      rw [List.length_map, List.length_take] at lp
      have li : i < ts.length := (List.getElem?_eq_some_iff.mp ht).1
      have lts : ts.length ≤ (wordsAll ts).length := by
        unfold wordsAll
        clear hp hT hd hz hzs k lT eD lp li ht hne
        induction ts with
        | nil => exact Nat.zero_le _
        | cons u r ih =>
          rw [List.flatMap_cons, List.length_append, List.length_cons]
          have := u.words_len
          omega
      refine ⟨rfl, x, rfl, x, t, rfl, hxt.mono (TK.of_same s1), (hd t (List.mem_of_getElem? ht)).1, (hd t (List.mem_of_getElem? ht)).2, fun R H2 s2 nR eR => ⟨_, s2 _ _ eD, by rw [List.length_map, sizeLine_eq]; omega, ?_, as ++ [R], by rw [upd_same, List.map_append]; rfl, ?_⟩⟩
      · exact same_over (s1.trans s2) hD
      · have nRD : R ≠ D := fun z => by rw [z, eD] at nR; cases nR
        rw [List.take_add_one, ht, List.map_append]
        refine Paired.snoc (L2.Paired.mapP hp fun a ys q => ⟨q.1, ?_⟩) ⟨nRD, ?_⟩
        · rw [upd_ne q.1]
          exact s2 _ _ q.2
        · rw [upd_ne nRD]
          exact eR
    · rintro H1 ⟨s1, as, eD, hp⟩
      rw [lT, List.take_length] at hp
      refine ⟨by show 0 ≤ sizeLine; exact Nat.zero_le _, fun e he => ?_⟩
      have s2 := same_upd (o := .lst []) he
      have lp := hp.length
      rw [List.length_map] at lp
      refine ⟨D, e, as, ts.map fun t => t.words.map V.str, rfl, s2 _ _ eD, upd_same, fun z => hne (by rw [z] at lp; exact List.eq_nil_of_length_eq_zero lp.symm), L2.Paired.mapP hp fun a ys q => s2 _ _ q.2, by rw [flat_words, List.length_map, sizeLine_eq]; omega, fun p np => ?_⟩
      rw [flat_words]
      have s3 : Same H (upd (upd H1 e (.lst [])) p (.lst ((wordsAll ts).map V.str))) := (s1.trans s2).trans (same_upd np)
      refine ⟨p, rfl, ⟨_, SqL.of upd_same⟩, fun D2 hD2 => ?_⟩
      have npD : p ≠ D2 := ne_of_none upd_same hD2
      have hH2 : H D2 = none := s3.free hD2
      refine lc_list (K := K) (xs := (wordsAll ts).map V.str) (fun i H' => Same H H' ∧ H' p = some (.lst ((wordsAll ts).map V.str)) ∧ ∃ ps : List Addr, H' D2 = some (.lst (ps.map V.ref)) ∧ Paired (fun (a : Addr) (kv : Key × V) => a ≠ D2 ∧ H' a = some (.tup [kV kv.1, kv.2])) ps (((wordsAll ts).take i).map fun z => (Sum.inr z, V.bl true)))
        ⟨s3.trans (same_upd hD2), by rw [upd_ne npD, upd_same], [], upd_same, by rw [List.take_zero]; exact .nil⟩ (fun i H' _ q => SqL.of q.2.1) ?_ ?_
      · rintro i x H2 hx ⟨s4, ep, ps, eD2, hq⟩
        rw [List.getElem?_map] at hx
        obtain ⟨z, hzi, rfl⟩ := Option.map_eq_some_iff.mp hx
        obtain ⟨hi, _⟩ := List.getElem?_eq_some_iff.mp hzi
        have lq := hq.length
        rw [List.length_map, List.length_take] at lq
        refine ⟨rfl, _, rfl, by show 2 ≤ sizeLine; rw [sizeLine_eq]; omega, fun r nr => ?_⟩
        have nrD : r ≠ D2 := fun z => by rw [z, eD2] at nr; cases nr
        have s5 := same_upd (o := .tup [.str z, .bl true]) nr
        refine ⟨_, s5 _ _ eD2, by rw [List.length_map, sizeLine_eq]; omega, same_over (s4.trans s5) hH2, by rw [upd_ne npD]; exact s5 _ _ ep, ps ++ [r], by rw [upd_same, List.map_append]; rfl, ?_⟩
        rw [List.take_add_one, hzi, List.map_append]
        refine Paired.snoc (L2.Paired.mapP hq fun a ys q => ⟨q.1, ?_⟩) ⟨nrD, ?_⟩
        · rw [upd_ne q.1]
          exact s5 _ _ q.2
        · rw [upd_ne nrD, upd_same]
          rfl
      · rintro H2 ⟨s4, ep, ps, eD2, hq⟩
        rw [List.length_map, List.take_length] at hq
        refine ⟨D2, ps, _, rfl, SqL.of eD2, L2.Paired.mapP hq fun a ys q => SqT.of q.2, fun q nq => ?_⟩
        obtain ⟨ks, k1, k2, k3, k4⟩ := merge_keys (fun _ => V.bl true) (wordsAll ts) [] [] rfl List.nodup_nil
        have s6 := s4.trans (same_upd (o := .dK (mergeK [] ((wordsAll ts).map fun z => (Sum.inr z, V.bl true)))) nq)
        refine ⟨q, _, ks, rfl, Rd.of upd_same, k1, by obtain ⟨zs, z1, z2⟩ := hzs; have := KT.nodup_len ks zs k2 (fun z hz => by rcases (k3 z).mp hz with h | h; exact absurd h (by simp); obtain ⟨t, ht, hz⟩ := List.mem_flatMap.mp h; exact z2 t ht z hz); omega, fun ys R pm so hR => k R ys _ ⟨so, pm.nodup_iff.mpr k2, fun z => ?_⟩ (s6.trans (same_upd hR)) (s6.free hR) upd_same⟩
        rw [pm.mem_iff, k3 z]
        simp [wordsAll, List.mem_flatMap]
end
end U6

namespace U6
open PySem PySem.Spec PyProof.Rows L2 NdefX LamX KT
open PySem.W (Frag)
theorem sw3c_vals {zs : List V} {ws : List Value} (h : Vals zs ws) : Vals (sw3 zs) (sw3 ws) := sw3_vals h
theorem KeepBut.lst {H H' : Hp} {a M : Addr} {o : HO} (k : KeepBut a H H') (e : H M = some o) (n : M ≠ a) : H' M = some o := k _ _ e n
/-- what a cut tells -/
theorem cut_tl {one d : D} {rm : List Ty} {kind : Ty} {r : Told} {p : Nat} (h1 : one.tl = some (rm, kind)) (h2 : d.tl = some r) (hp : r.1[p]? = some kind) : (D.t [.s "cut", .i (p : Int), one, d]).tl = some (r.1.take p ++ rm ++ r.1.drop (p + 1), r.2) := by
  refine tl_of (.us (by decide) h1 h2 ?_)
  obtain ⟨row, g⟩ := r
  have hp : row[p]? = some kind := hp
  obtain ⟨e1, e2⟩ := split_at hp
  have q := usedAt_of (nm := "cut") (A := row.take p) (B := row.drop (p + 1)) (k := kind) (g := g) (x := (rm, kind)) fun _ _ => rfl
  rw [e2, ← e1] at q
  rw [q]
  simp [midOf]
section
variable {P : Program} {w : World} {K : Frag} {mg : Str → Option Value} {base : Heap}
structure CRs (P : Program) (w : World) (K : Frag) (mg : Str → Option Value) (base : Heap) (fT fE fM fTo fCI : Addr) (dT dE dM dTo dCI : FuncData) : Prop where
  TT : Top K mg "_law_tells" sLTells pLTells fT dT
  TE : Top K mg "_law_exact" sLExact pLExact fE dE
  TM : Top K mg "_law_minor" sLMinor pLMinor fM dM
  TTo : Top K mg "told_by" sToldBy pToldBy fTo dTo
  TCI : Top K mg "cut_in" sCutIn pCutIn fCI dCI
  GT : FnOk P w K mg base CX0 123 fT dT pLTells (spLTells 60)
  GE : FnOk P w K mg base CX0 61 fE dE pLExact (spExact 60)
  GM : FnOk P w K mg base CX0 62 fM dM pLMinor spMinor
  GTo : FnOk P w K mg base CX0 7 fTo dTo pToldBy spToldBy
  GCI : FnOk P w K mg base CX0 8 fCI dCI pCutIn spCutIn
def spCutsRight : Sp := fun vs H Q _ => ∃ (a L : Addr) (n : Nat) (zs : List Str) (v : V) (d : D) (r : Told), vs = [.ref a, .ref L, v] ∧ Drawn H a L n zs ∧ n ≤ 200000000000 ∧ DAt H v d ∧ d.tl = some r ∧ r.1 ≠ [] ∧ r.1.length < 6 ∧ d.dep ≤ 26 ∧ d.size ≤ 3000 ∧ LWd zs d ∧ ∀ H', KeepBut a H H' → PurseAt H' a (n + 60) → Q (.bl true) H'
theorem ok_cutsRight {f fT fE fM fTo fCI : Addr} {fd dT dE dM dTo dCI : FuncData} (T : Top K mg "_law_cuts_right" sLCutsRight pLCutsRight f fd) (C : CRs P w K mg base fT fE fM fTo fCI dT dE dM dTo dCI) (B : Blt mg) (hEn : mg "enumerate" = none) : FnOk P w K mg base CX0 124 f fd pLCutsRight spCutsRight := by
  obtain ⟨TT, TE, TM, TTo, TCI, GT, GE, GM, GTo, GCI⟩ := C
  have KCI := KT.kbinds_mk (ps := ["one", "other", "place"]) (ks := ["place", "other", "one"]) TCI.F (by decide) (fun {α} ws => sw3 ws) (fun _ _ _ _ _ _ ws hl => match ws, hl with | [_, _, _], _ => rfl) sw3_vals
  refine T.F.ok scLCutsRight (fun vs H Q E h => ?_) (fun cdv A outer s H vs Q E hr h => ?_)
  · obtain ⟨_, _, _, _, _, _, _, rfl, _⟩ := h
    rfl
  · obtain ⟨a, L, n, zs, v, d, r, rfl, dr, hn, hd, et, hne, hl6, hdp, hz, hlw, k⟩ := h
    have hr62 : Room 62 _ := hr.mono (by decide)
    have hr61 : Room 61 _ := hr.mono (by decide)
    have hr8 : Room 8 _ := hr.mono (by decide)
    have hr7 : Room 7 _ := hr.mono (by decide)
    refine ⟨_, (pss_cons (ps_asg (pe_call GT hr rfl TT.g TT.F.kp TT.b .nil pass0 (pa_cons (pv 2) pa_nil)) (pg_lst (by rfl) (pgs_cons (pg_name (i := 3) scLCutsRight.nd rfl (Or.inl rfl)) (pgs_cons (pg_name (i := 4) scLCutsRight.nd rfl (Or.inl rfl)) pgs_nil))))
      (pss_cons (ps_for PassesOwn.never rfl (pi_enum (by rfl) hEn (pa_cons (pv 3) pa_nil)) (pg_tup (by rfl) (pgs_cons (pg_name (i := 5) scLCutsRight.nd rfl (Or.inl rfl)) (pgs_cons (pg_name (i := 6) scLCutsRight.nd rfl (Or.inl rfl)) pgs_nil)))
        (pss_cons (ps_set (i := 7) scLCutsRight.nd rfl (Or.inl rfl) (pe_call GM hr62 rfl TM.g TM.F.kp TM.b .nil pass0 (pa_cons (pv 0) (pa_cons (pv 1) (pa_cons (pv 6) pa_nil)))))
      (pss_cons (ps_set (i := 8) scLCutsRight.nd rfl (Or.inl rfl) (KT.pe_callK0 GCI hr8 rfl TCI.g TCI.F.kp KCI pass0 (pk_cons (pv 5) (pk_cons (pv 2) (pk_cons (pv 7) pk_nil)))))
      (pss_cons (ps_set (i := 9) scLCutsRight.nd rfl (Or.inl rfl) (pe_ix ix_list (pe_call GT hr rfl TT.g TT.F.kp TT.b .nil pass0 (pa_cons (pv 7) pa_nil)) pe_int (fun _ _ => rfl)))
      (pss_one (ps_if (pt_not (pt_val (pe_call GE hr61 rfl TE.g TE.F.kp TE.b .nil pass0 (pa_cons (pe_lst (pa_cons (pv 8) (pa_cons (pe_call GTo hr7 rfl TTo.g TTo.F.kp TTo.b .nil pass0 (pa_cons (pv 8) pa_nil)) pa_nil))) (pa_cons (pe_lst (pa_cons (pe_tup (pa_cons pe_str (pa_cons (pv 5) (pa_cons (pv 7) (pa_cons (pv 2) pa_nil))))) (pa_cons (pe_tup (pa_cons (pe_op op_cat (pe_op op_cat (pe_slice sl_list (pv 3) po_none (po_some (pv 5))) (pv 9)) (pe_slice sl_list (pv 3) (po_some (pe_op op_add (pv 5) pe_int)) po_none)) (pa_cons (pv 4) pa_nil))) pa_nil))) pa_nil))))) pss_never pss_nil))))))
      (pss_one (ps_ret pe_bl)))), ?_⟩
    obtain ⟨row, goal⟩ := r
    have hne : row ≠ [] := hne
    have hl6 : row.length < 6 := hl6
    have bd := tl_bd d.size d _ (Nat.le_refl _) et
    have tw := told_words d.size d _ (Nat.le_refl _) et hlw
    have bdT : ∀ t ∈ row, t.d.dep ≤ 26 := fun t ht => by have := bd.2.1 t ht; omega
    have bdG : goal.d.dep ≤ 26 := by have := bd.2.2; have q : (row, goal).2.d.dep = goal.d.dep := rfl; omega
    refine ⟨_, rfl, v, d, rfl, hd, by omega, by omega, by omega, fun v1 H1 s1 r1 => ?_⟩
    rw [et] at r1
    obtain ⟨q, M, ms, g, rfl, eq, eM, hT, hg⟩ := r1
    have hT : Tys H1 ms row := hT
    have hg : TyAt H1 g goal := hg
    have lT := hT.length
    have dr1 := dr.same s1
    have hd1 := hd.mono (TK.of_same s1)
    have nM : M ≠ a := row_neP dr1.p eM hT hne
    refine ⟨q, _, rfl, SqL.of eq, rfl, _, _, rfl, _, _, rfl, rfl, ?_⟩
    dsimp only
    refine ⟨_, rfl, M, ms, rfl, SqL.of eM, ?_⟩
    refine for_it (walk_enum (K := K) (xs := ms)) (fun i σ H' => ∃ (v5 v6 v7 v8 v9 : Option V), σ = [some (.ref a), some (.ref L), some v, some (.ref M), some g, v5, v6, v7, v8, v9] ∧ KeepBut a H1 H' ∧ PurseAt H' a (n + 10 * i)) ⟨none, none, none, none, none, rfl, .of_same (Same.refl H1), dr1.p⟩ ?_ ?_ ?_
    · rintro i σ H' hi ⟨_, _, _, _, _, _, kb, _⟩
      exact SqL.of (kb _ _ eM nM)
    · rintro i x σ H' H2 hi ⟨v5, v6, v7, v8, v9, rfl, kb, hp⟩ ⟨Tp, x1, x2, rfl, nT, rfl, g1, g2⟩
      obtain rfl : x1 = .int (i : Nat) := (Option.some.inj g1).symm
      obtain ⟨kind, hki, hxk⟩ := hT.at_ g2
      obtain ⟨hi', _⟩ := List.getElem?_eq_some_iff.mp hki
      have mk := List.mem_of_getElem? hki
      have sT := same_upd (o := .tup [.int (i : Nat), x2]) nT
      have kbT := kb.trans (.of_same sT)
      have hpT : PurseAt (upd H' Tp (.tup [.int (i : Nat), x2])) a (n + 10 * i) := by
        obtain ⟨p0, p1, p2, p3, e, rr⟩ := hp
        exact ⟨p0, p1, p2, p3, sT _ _ e, rr⟩
      have tkT : TK H1 _ := TK.of_keepBut kbT dr1.p
      refine ⟨Tp, _, rfl, SqT.of upd_same, rfl, _, _, rfl, _, _, rfl, rfl, ?_⟩
      dsimp only
      have bk := bdT kind mk
      have bz : kind.d.size ≤ 6000 := by
        have q1 := tsz_mem mk
        have q2 := wt_size d.size d _ (Nat.le_refl _) et
        have q3 : wt (row, goal) = tsz row + goal.d.size := rfl
        omega
      generalize upd H' Tp (.tup [.int (i : Nat), x2]) = HT at kbT hpT tkT ⊢
      refine ⟨_, rfl, _, rfl, _, rfl, a, L, n + 10 * i, zs, x2, kind, rfl, dr1.but kbT hpT, by omega, hxk.mono tkT, by omega, tw.1 kind mk, fun vo one rm H3 kb3 hp3 h1 eo l1 l2 dp1 sz1 _ => gN ?_⟩
      dsimp only
      have kbA := kbT.trans kb3
      have tkA : TK H1 H3 := TK.of_keepBut kbA dr1.p
      have d1 : one.dep ≤ 28 := by omega
      have ect := cut_tl eo et hki
      refine ⟨_, rfl, _, rfl, _, rfl, vo, v, one, d, rm, kind, row, goal, i, rfl, h1, hd1.mono tkA, by omega, by omega, by omega, by omega, eo, et, hki, fun v8 H4 s4 h8 => gN ?_⟩
      dsimp only
      refine ⟨_, rfl, vo, one, rfl, h1.mono (TK.of_same s4), by omega, by omega, by omega, fun v9 H5 s5 r9 => ?_⟩
      rw [eo] at r9
      obtain ⟨q9, M9, ms9, g9, rfl, e9, eM9, hT9, _⟩ := r9
      have hT9 : Tys H5 ms9 rm := hT9
      have l9 := hT9.length
      refine ⟨q9, _, _, _, rfl, rfl, SqL.of e9, atI_nat (j := 0) rfl, gN ?_⟩
      dsimp only
      have cz : (D.t [.s "cut", .i (i : Nat), one, d]).size ≤ 40000 := by simp only [D.size, sizeAll]; omega
      have cd : (D.t [.s "cut", .i (i : Nat), one, d]).dep ≤ 29 := by simp only [D.dep, depAll]; omega
      refine ⟨_, rfl, _, rfl, v8, _, _, rfl, h8.mono (TK.of_same s5), cz, by omega, ect, fun v10 H6 s6 r10 => ?_⟩
      obtain ⟨p2, L2', us2, gg2, rfl, nL2, ep2, eL2, hT2, hg2⟩ := r10
      have hT2 : Tys H6 us2 (row.take i ++ rm ++ row.drop (i + 1)) := hT2
      have hg2 : TyAt H6 gg2 goal := hg2
      have sz2 : 2 ≤ sizeLine := by rw [sizeLine_eq]; omega
      have sz4 : 4 ≤ sizeLine := by rw [sizeLine_eq]; omega
      have s36 := (s4.trans s5).trans s6
      have eM6 := s36 _ _ (kbA _ _ eM nM)
      refine ⟨sz2, fun A1 nA1 => ?_⟩
      have sA1 := same_upd (o := .lst [v8, .ref p2]) nA1
      have eA1 : (upd H6 A1 (.lst [v8, .ref p2])) A1 = some (.lst [v8, .ref p2]) := upd_same
      generalize upd H6 A1 (.lst [v8, .ref p2]) = H7 at sA1 eA1 ⊢
      refine ⟨_, rfl, _, rfl, _, rfl, sz4, fun t1 nt1 => ?_⟩
      have st1 := same_upd (o := .tup [.str "cut", .int (i : Nat), vo, v]) nt1
      have et1 : (upd H7 t1 (.tup [.str "cut", .int (i : Nat), vo, v])) t1 = some (.tup [.str "cut", .int (i : Nat), vo, v]) := upd_same
      generalize upd H7 t1 (.tup [.str "cut", .int (i : Nat), vo, v]) = H8 at st1 et1 ⊢
      refine ⟨_, rfl, _, rfl, _, rfl, M, ms, rfl, SqL.of ((sA1.trans st1) _ _ eM6), fun S1 nS1 => ?_⟩
      rw [cutV_take]
      have sS1 := same_upd (o := .lst (ms.take i)) nS1
      have eS1 : (upd H8 S1 (.lst (ms.take i))) S1 = some (.lst (ms.take i)) := upd_same
      generalize upd H8 S1 (.lst (ms.take i)) = H9 at sS1 eS1 ⊢
      have s69 := (sA1.trans st1).trans sS1
      have lms9 := hT9.length
      refine ⟨_, rfl, S1, M9, _, _, rfl, rfl, eS1, s69 _ _ (s6 _ _ eM9), by rw [List.length_take, sizeLine_eq]; omega, fun C1 nC1 => ?_⟩
      have sC1 := same_upd (o := .lst (ms.take i ++ ms9)) nC1
      have eC1 : (upd H9 C1 (.lst (ms.take i ++ ms9))) C1 = some (.lst (ms.take i ++ ms9)) := upd_same
      generalize upd H9 C1 (.lst (ms.take i ++ ms9)) = H10 at sC1 eC1 ⊢
      refine ⟨_, rfl, _, rfl, _, _, rfl, rfl, _, rfl, M, ms, rfl, SqL.of ((s69.trans sC1) _ _ eM6), fun S2 nS2 => ?_⟩
      rw [show ((i : Nat) : Int) + 1 = ((i + 1 : Nat) : Int) by omega, cutV_from]
      have sS2 := same_upd (o := .lst (ms.drop (i + 1))) nS2
      have eS2 : (upd H10 S2 (.lst (ms.drop (i + 1)))) S2 = some (.lst (ms.drop (i + 1))) := upd_same
      generalize upd H10 S2 (.lst (ms.drop (i + 1))) = H11 at sS2 eS2 ⊢
      refine ⟨C1, S2, _, _, rfl, rfl, sS2 _ _ eC1, eS2, by rw [List.length_append, List.length_take, List.length_drop, sizeLine_eq]; omega, fun C2 nC2 => ?_⟩
      have sC2 := same_upd (o := .lst (ms.take i ++ ms9 ++ ms.drop (i + 1))) nC2
      have eC2 : (upd H11 C2 (.lst (ms.take i ++ ms9 ++ ms.drop (i + 1)))) C2 = some (.lst (ms.take i ++ ms9 ++ ms.drop (i + 1))) := upd_same
      generalize upd H11 C2 (.lst (ms.take i ++ ms9 ++ ms.drop (i + 1))) = H12 at sC2 eC2 ⊢
      refine ⟨_, rfl, sz2, fun t2 nt2 => ?_⟩
      have st2 := same_upd (o := .tup [.ref C2, g]) nt2
      have et2 : (upd H12 t2 (.tup [.ref C2, g])) t2 = some (.tup [.ref C2, g]) := upd_same
      generalize upd H12 t2 (.tup [.ref C2, g]) = H13 at st2 et2 ⊢
      refine ⟨sz2, fun A2 nA2 => ?_⟩
      have sA2 := same_upd (o := .lst [.ref t1, .ref t2]) nA2
      have eA2 : (upd H13 A2 (.lst [.ref t1, .ref t2])) A2 = some (.lst [.ref t1, .ref t2]) := upd_same
      generalize upd H13 A2 (.lst [.ref t1, .ref t2]) = H14 at sA2 eA2 ⊢
      have sAE := ((((((st1.trans sS1).trans sC1).trans sS2).trans sC2).trans st2).trans sA2)
      have sE := sA1.trans sAE
      have s3E := s36.trans sE
      have tkE : TK H1 H14 := tkA.trans (TK.of_same s3E)
      have s1t : Same H8 H14 := (((((sS1.trans sC1).trans sS2).trans sC2).trans st2).trans sA2)
      refine ⟨_, _, rfl, ?_, fun H15 s15 => ⟨true, rfl, iteF ?_⟩⟩
      · have x1 := sAE _ _ eA1
        have dcut : DAt H14 (.ref t1) (.t [.s "cut", .i (i : Nat), one, d]) := .t (s1t _ _ et1) (.cons (.s (txtIs _ (by simp))) (.cons (.i _) (.cons ((h1.mono (TK.of_same s3E))) (.cons (hd1.mono tkE) .nil))))
        refine (SameDt.lst (k := 40) x1 eA2 rfl (by show 2 ≤ _; omega) (two_same ?_ ?_)).le (by omega)
        · exact ((SameDt.d 40000 cz (Nat.le_refl _) ((h8.mono (TK.of_same s5)).mono (TK.of_same (s6.trans sE))) dcut).le (by omega))
        · have hT9E : Tys H14 ms9 rm := hT9.mono (TK.of_same (s6.trans sE))
          have hTE : Tys H14 ms row := hT.mono tkE
          refine (told_same (r := (row.take i ++ rm ++ row.drop (i + 1), goal)) (k := 31) (sE _ _ ep2) (sA2 _ _ et2) (sE _ _ eL2) (st2.trans sA2 _ _ eC2) (hT2.mono (TK.of_same sE)) (((hTE.take i).append hT9E).append (hTE.drop (i + 1))) (hg2.mono (TK.of_same sE)) (hg.mono tkE) ?_ ?_ (by show goal.d.dep ≤ 31; omega)).le (by omega)
          · show (row.take i ++ rm ++ row.drop (i + 1)).length ≤ 40000
            rw [List.length_append, List.length_append, List.length_take, List.length_drop]
            omega
          · intro t ht
            have bd2 := tl_bd one.size one _ (Nat.le_refl _) eo
            rcases List.mem_append.mp ht with ht | ht
            · rcases List.mem_append.mp ht with ht | ht
              · have := bdT t (List.mem_of_mem_take ht); omega
              · have := bd2.2.1 t ht; omega
            · have := bdT t (List.mem_of_mem_drop ht); omega
      · have s3F := s3E.trans s15
        refine ⟨_, _, _, _, _, rfl, kbA.trans (.of_same s3F), ?_⟩
        obtain ⟨p0, p1, p2', p3, e, rr⟩ := hp3
        exact PurseAt.mono (⟨p0, p1, p2', p3, s3F _ _ e, rr⟩ : PurseAt H15 a (n + 10 * i + 10)) (by omega)
    · rintro σ H' ⟨v5, v6, v7, v8, v9, rfl, kb, hp⟩
      exact k H' ((KeepBut.of_same s1).trans kb) (hp.mono (by omega))
end
end U6

namespace U6
open PySem PySem.Spec PyProof.Rows L2 NdefX LamX KT
open PySem.W (Frag)
/-! ### what stays but for the purse and the tables -/
def KN (a : Addr) (H H' : Hp) : Prop := ∀ b o, H b = some o → b ≠ a → (∀ ps, o ≠ .tbl ps) → H' b = some o
theorem KN.refl (a : Addr) (H : Hp) : KN a H H := fun _ _ e _ _ => e
theorem KN.trans {a : Addr} {H H1 H2 : Hp} (h : KN a H H1) (h' : KN a H1 H2) : KN a H H2 := fun b o e n m => h' b o (h b o e n m) n m
theorem KN.of_same {a : Addr} {H H' : Hp} (h : Same H H') : KN a H H' := fun b o e _ _ => h b o e
theorem KN.of_but {a : Addr} {H H' : Hp} (h : KeepBut a H H') : KN a H H' := fun b o e n _ => h b o e n
theorem KN.of_ext {a : Addr} {H H' : Hp} (h : ExtN H H') : KN a H H' := fun b o e _ m => h b o e m
/-- an object that was not there at first may be changed -/
theorem KN.upd {a d : Addr} {H H1 H' : Hp} {o : HO} (h1 : KN a H H1) (n : H1 d = none) (h : KN a H H') : KN a H (upd H' d o) := fun b u e nb m => by
  have q := h1 b u e nb m
  have : b ≠ d := fun z => by rw [z, n] at q; cases q
  rw [upd_ne this]
  exact h b u e nb m
theorem KN.upd_new {a d : Addr} {H H' : Hp} {o : HO} (h : KN a H H') (n : H' d = none) : KN a H (L2.upd H' d o) := h.trans (.of_same (same_upd n))
theorem KN.tk {a n : Nat} {H H' : Hp} (h : KN a H H') (p : PurseAt H a n) : TK H H' := fun q xs e => h q _ e (fun z => by
  obtain ⟨_, _, _, _, e', _⟩ := p
  rw [z, e'] at e
  cases e) fun ps z => by cases z
theorem tbl_ne_lst {xs : List V} : ∀ ps, HO.lst xs ≠ .tbl ps := fun ps z => by cases z
theorem tbl_ne_dK {xs : List (Key × V)} : ∀ ps, HO.dK xs ≠ .tbl ps := fun ps z => by cases z
theorem tbl_ne_tup {xs : List V} : ∀ ps, HO.tup xs ≠ .tbl ps := fun ps z => by cases z
theorem KN.lst {a b : Addr} {H H' : Hp} {xs : List V} (h : KN a H H') (e : H b = some (.lst xs)) (n : b ≠ a) : H' b = some (.lst xs) := h b _ e n tbl_ne_lst
theorem KN.dK {a b : Addr} {H H' : Hp} {xs : List (Key × V)} (h : KN a H H') (e : H b = some (.dK xs)) (n : b ≠ a) : H' b = some (.dK xs) := h b _ e n tbl_ne_dK
theorem ExtN.lst {b : Addr} {H H' : Hp} {xs : List V} (h : ExtN H H') (e : H b = some (.lst xs)) : H' b = some (.lst xs) := h b _ e tbl_ne_lst
theorem ExtN.dK {b : Addr} {H H' : Hp} {xs : List (Key × V)} (h : ExtN H H') (e : H b = some (.dK xs)) : H' b = some (.dK xs) := h b _ e tbl_ne_dK
theorem ExtN.tup {b : Addr} {H H' : Hp} {xs : List V} (h : ExtN H H') (e : H b = some (.tup xs)) : H' b = some (.tup xs) := h b _ e tbl_ne_tup
theorem PurseAt.ext {H H' : Hp} {a n : Nat} (h : PurseAt H a n) (e : ExtN H H') : PurseAt H' a n := by
  obtain ⟨p0, p1, p2, p3, q, r⟩ := h
  exact ⟨p0, p1, p2, p3, ExtN.lst e q, r⟩
theorem PurseAt.same {H H' : Hp} {a n : Nat} (h : PurseAt H a n) (e : Same H H') : PurseAt H' a n := h.ext (extn_same e)
section
variable {P : Program} {w : World} {K : Frag} {mg : Str → Option Value} {base : Heap} {T : List (Addr × Str)}
structure HRs (P : Program) (w : World) (K : Frag) (mg : Str → Option Value) (base : Heap) (T : List (Addr × Str)) (fT fE fTD fA fTo fLT fD fK fSh fPW fEn fWP fPA fLP fPO fLC fCu : Addr) (dT dE dTD dA dTo dLT dD dK dSh dPW dEn dWP dPA dLP dPO dLC dCu : FuncData) : Prop where
  TT : Top K mg "_law_tells" sLTells pLTells fT dT
  TE : Top K mg "_law_exact" sLExact pLExact fE dE
  TTD : Top K mg "turned_derivation" sTurnedDerivation pTurnedDerivation fTD dTD
  TA : Top K mg "_law_about" sLAbout pLAbout fA dA
  TTo : Top K mg "told_by" sToldBy pToldBy fTo dTo
  TLT : Top K mg "_law_turned" sLTurned pLTurned fLT dLT
  TD : Top K mg "_law_draw" sLDraw ["purse", "many"] fD dD
  TK_ : Top K mg "_law_kind" sLKind pLKind fK dK
  TSh : Top K mg "_law_shuffled" sLShuffled pLShuffled fSh dSh
  TPW : Top K mg "_law_plain_words" sLPlainWords pLPlainWords fPW dPW
  TEn : Top K mg "_law_ends" sLEnds pLEnds fEn dEn
  TWP : Top K mg "with_put" sWithPut pWithPut fWP dWP
  TPA : Top K mg "_law_put_all" sLPutAll pLPutAll fPA dPA
  TLP : Top K mg "_law_put" sLPut pLPut fLP dLP
  TPO : Top K mg "plain_out" sPlainOut pPlainOut fPO dPO
  TLC : Top K mg "_law_many_cuts" sLManyCuts pLManyCuts fLC dLC
  TCu : Top K mg "cuts_of" sCutsOf pCutsOf fCu dCu
  GT : FnOk P w K mg base CX0 123 fT dT pLTells (spLTells 60)
  GE : FnOk P w K mg base CX0 61 fE dE pLExact (spExact 60)
  GTD : FnOk P w K mg base CX0 10 fTD dTD pTurnedDerivation (spTurnDer T)
  GA : FnOk P w K mg base CX0 63 fA dA pLAbout (spAbout 30)
  GTo : FnOk P w K mg base CX0 7 fTo dTo pToldBy spToldBy
  GLT : FnOk P w K mg base CX0 31 fLT dLT pLTurned (spLTurned 30)
  GD : FnOk P w K mg base CX0 2 fD dD ["purse", "many"] spDraw
  GK : FnOk P w K mg base CX0 6 fK dK pLKind (spKind 2)
  GSh : FnOk P w K mg base CX0 3 fSh dSh pLShuffled spShuffled
  GPW : FnOk P w K mg base CX0 32 fPW dPW pLPlainWords spPlainWords
  GEn : FnOk P w K mg base CX0 61 fEn dEn pLEnds (spEnds 60)
  GWP : FnOk P w K mg base CX0 10 fWP dWP pWithPut (spWithPut T)
  GPA : FnOk P w K mg base CX0 31 fPA dPA pLPutAll (spPutAll 30)
  GLP : FnOk P w K mg base CX0 31 fLP dLP pLPut (spLPut 30)
  GPO : FnOk P w K mg base CX0 10 fPO dPO pPlainOut (spPlainOut T)
  GLC : FnOk P w K mg base CX0 62 fLC dLC pLManyCuts (spLCuts 60)
  GCu : FnOk P w K mg base CX0 9 fCu dCu pCutsOf spCutsOf
def spChangesRight (T : List (Addr × Str)) : Sp := fun vs H Q _ => ∃ (a L : Addr) (n : Nat) (zs : List Str) (v : V) (d : D) (r : Told), vs = [.ref a, .ref L, v] ∧ Drawn H a L n zs ∧ n ≤ 200000000000 ∧ zs.length ≤ 3 ∧ LWd zs d ∧ DAt H v d ∧ d.tl = some r ∧ r.1 ≠ [] ∧ r.1.length < 6 ∧ d.dep ≤ 26 ∧ d.size ≤ 3000 ∧ Tabs T H ∧ ∀ H', KN a H H' → Tabs T H' → PurseAt H' a (n + 100) → Q (.bl true) H'
end
end U6

namespace U6
open PySem PySem.Spec PyProof.Rows L2 LamX KT
open PySem.W (Frag)
/-! ### how deep, how large, what with others at the leaves -/
theorem lf_dep2 {f : Ty → D} (hf : ∀ k : Ty, (f k).dep ≤ 2 * k.d.dep + 2) : ∀ (n : Nat) (u : D) (r : Told), u.size ≤ n → u.tl = some r → (u.lf f).dep ≤ 2 * u.dep := by
  intro n
  induction n with
  | zero => intro u r h; have := u.size_pos; omega
  | succ n ih =>
    intro u r hz hu
    cases tl_inv hu with
    | @is x k hk =>
      rw [lf_is hk]
      have := hf k
      rw [D.ty_d hk] at this
      simp only [D.dep, depAll, D.size, sizeAll] at *
      omega
    | @om x rx _ h1 h2 =>
      simp only [D.size, sizeAll] at hz
      have := ih x rx (by omega) h1
      rw [lf_om]
      simp only [D.dep, depAll, D.size, sizeAll] at *
      omega
    | @um x rx _ h1 h2 =>
      simp only [D.size, sizeAll] at hz
      have := ih x rx (by omega) h1
      rw [lf_um]
      simp only [D.dep, depAll, D.size, sizeAll] at *
      omega
    | @tm x y rx ry h1 h2 =>
      simp only [D.size, sizeAll] at hz
      have := ih x rx (by omega) h1
      have := ih y ry (by omega) h2
      rw [lf_tm]
      simp only [D.dep, depAll, D.size, sizeAll] at *
      omega
    | @tu p y ry _ h1 h2 =>
      simp only [D.size, sizeAll] at hz
      have := ih y ry (by omega) h1
      rw [lf_tu]
      simp only [D.dep, depAll, D.size, sizeAll] at *
      omega
    | @us nm p x y rx ry _ c h1 h2 h3 =>
      simp only [D.size, sizeAll] at hz
      have := ih x rx (by omega) h1
      have := ih y ry (by omega) h2
      rw [lf_us]
      simp only [D.dep, depAll, D.size, sizeAll] at *
      omega
theorem lf_dep1 {f : Ty → D} (hf : ∀ k : Ty, (f k).dep ≤ k.d.dep + 3) : ∀ (n : Nat) (u : D) (r : Told), u.size ≤ n → u.tl = some r → (u.lf f).dep ≤ u.dep + 2 := by
  intro n
  induction n with
  | zero => intro u r h; have := u.size_pos; omega
  | succ n ih =>
    intro u r hz hu
    cases tl_inv hu with
    | @is x k hk =>
      rw [lf_is hk]
      have := hf k
      rw [D.ty_d hk] at this
      simp only [D.dep, depAll, D.size, sizeAll] at *
      omega
    | @om x rx _ h1 h2 =>
      simp only [D.size, sizeAll] at hz
      have := ih x rx (by omega) h1
      rw [lf_om]
      simp only [D.dep, depAll, D.size, sizeAll] at *
      omega
    | @um x rx _ h1 h2 =>
      simp only [D.size, sizeAll] at hz
      have := ih x rx (by omega) h1
      rw [lf_um]
      simp only [D.dep, depAll, D.size, sizeAll] at *
      omega
    | @tm x y rx ry h1 h2 =>
      simp only [D.size, sizeAll] at hz
      have := ih x rx (by omega) h1
      have := ih y ry (by omega) h2
      rw [lf_tm]
      simp only [D.dep, depAll, D.size, sizeAll] at *
      omega
    | @tu p y ry _ h1 h2 =>
      simp only [D.size, sizeAll] at hz
      have := ih y ry (by omega) h1
      rw [lf_tu]
      simp only [D.dep, depAll, D.size, sizeAll] at *
      omega
    | @us nm p x y rx ry _ c h1 h2 h3 =>
      simp only [D.size, sizeAll] at hz
      have := ih x rx (by omega) h1
      have := ih y ry (by omega) h2
      rw [lf_us]
      simp only [D.dep, depAll, D.size, sizeAll] at *
      omega
theorem lf_size3 {f : Ty → D} (hf : ∀ k : Ty, (f k).size ≤ 3 * k.d.size + 6) : ∀ (n : Nat) (u : D) (r : Told), u.size ≤ n → u.tl = some r → (u.lf f).size ≤ 3 * u.size := by
  intro n
  induction n with
  | zero => intro u r h; have := u.size_pos; omega
  | succ n ih =>
    intro u r hz hu
    cases tl_inv hu with
    | @is x k hk =>
      rw [lf_is hk]
      have := hf k
      rw [D.ty_d hk] at this
      simp only [D.dep, depAll, D.size, sizeAll] at *
      omega
    | @om x rx _ h1 h2 =>
      simp only [D.size, sizeAll] at hz
      have := ih x rx (by omega) h1
      rw [lf_om]
      simp only [D.dep, depAll, D.size, sizeAll] at *
      omega
    | @um x rx _ h1 h2 =>
      simp only [D.size, sizeAll] at hz
      have := ih x rx (by omega) h1
      rw [lf_um]
      simp only [D.dep, depAll, D.size, sizeAll] at *
      omega
    | @tm x y rx ry h1 h2 =>
      simp only [D.size, sizeAll] at hz
      have := ih x rx (by omega) h1
      have := ih y ry (by omega) h2
      rw [lf_tm]
      simp only [D.dep, depAll, D.size, sizeAll] at *
      omega
    | @tu p y ry _ h1 h2 =>
      simp only [D.size, sizeAll] at hz
      have := ih y ry (by omega) h1
      rw [lf_tu]
      simp only [D.dep, depAll, D.size, sizeAll] at *
      omega
    | @us nm p x y rx ry _ c h1 h2 h3 =>
      simp only [D.size, sizeAll] at hz
      have := ih x rx (by omega) h1
      have := ih y ry (by omega) h2
      rw [lf_us]
      simp only [D.dep, depAll, D.size, sizeAll] at *
      omega
theorem lf_size7 {f : Ty → D} (hf : ∀ k : Ty, (f k).size ≤ 7 * k.d.size + 14) : ∀ (n : Nat) (u : D) (r : Told), u.size ≤ n → u.tl = some r → (u.lf f).size ≤ 7 * u.size := by
  intro n
  induction n with
  | zero => intro u r h; have := u.size_pos; omega
  | succ n ih =>
    intro u r hz hu
    cases tl_inv hu with
    | @is x k hk =>
      rw [lf_is hk]
      have := hf k
      rw [D.ty_d hk] at this
      simp only [D.dep, depAll, D.size, sizeAll] at *
      omega
    | @om x rx _ h1 h2 =>
      simp only [D.size, sizeAll] at hz
      have := ih x rx (by omega) h1
      rw [lf_om]
      simp only [D.dep, depAll, D.size, sizeAll] at *
      omega
    | @um x rx _ h1 h2 =>
      simp only [D.size, sizeAll] at hz
      have := ih x rx (by omega) h1
      rw [lf_um]
      simp only [D.dep, depAll, D.size, sizeAll] at *
      omega
    | @tm x y rx ry h1 h2 =>
      simp only [D.size, sizeAll] at hz
      have := ih x rx (by omega) h1
      have := ih y ry (by omega) h2
      rw [lf_tm]
      simp only [D.dep, depAll, D.size, sizeAll] at *
      omega
    | @tu p y ry _ h1 h2 =>
      simp only [D.size, sizeAll] at hz
      have := ih y ry (by omega) h1
      rw [lf_tu]
      simp only [D.dep, depAll, D.size, sizeAll] at *
      omega
    | @us nm p x y rx ry _ c h1 h2 h3 =>
      simp only [D.size, sizeAll] at hz
      have := ih x rx (by omega) h1
      have := ih y ry (by omega) h2
      rw [lf_us]
      simp only [D.dep, depAll, D.size, sizeAll] at *
      omega
theorem opD_dep (t : Ty) : (opD t).dep ≤ 2 * t.d.dep + 2 := by
  have key : (opD t).dep ≤ 2 * t.d.dep + 1 := by
    induction t with
    | w z => simp [opD, D.dep, depAll]
    | n g a b i j => rw [dep_n]; cases g <;> simp only [opD, D.dep, depAll] <;> omega
  omega
theorem opD_size3 (t : Ty) : (opD t).size ≤ 3 * t.d.size + 6 := by
  have := (opD_size t).1
  rw [d_size]
  omega
theorem put_dep {m : Str → Ty} (hm : ∀ z, (m z).d.dep ≤ 2) (t : Ty) : (t.put m).d.dep ≤ t.d.dep + 2 := by
  induction t with
  | w z => have := hm z; simp only [Ty.put]; omega
  | n g a b i j => simp only [Ty.put, dep_n]; omega
theorem put_size {m : Str → Ty} (hm : ∀ z, (m z).d.size ≤ 7) (t : Ty) : (t.put m).d.size ≤ 7 * t.d.size := by
  induction t with
  | w z => have := hm z; simp only [Ty.put, Ty.d, D.size]; omega
  | n g a b i j => simp only [Ty.put, Ty.d, D.size, sizeAll] at *; omega
theorem puD_dep {m : Str → Ty} (hm : ∀ z, (m z).d.dep ≤ 2) (k : Ty) : (puD m k).dep ≤ k.d.dep + 3 := by
  have := put_dep hm k
  simp only [puD, D.dep, depAll]
  omega
theorem puD_size {m : Str → Ty} (hm : ∀ z, (m z).d.size ≤ 7) (k : Ty) : (puD m k).size ≤ 7 * k.d.size + 14 := by
  have := put_size hm k
  simp only [puD, D.size, sizeAll]
  omega
/-- spelt out, it tells the same -/
theorem spelt_tl {d : D} {r : Told} (h : d.tl = some r) : (d.lf opD).tl = some r := by
  have q := lf_tl (f := opD) (h := id) (fun _ _ _ => rfl) (fun k hk => opD_tl k hk) d.size d r (Nat.le_refl _) h
  simpa using q
/-- others put, it tells others put -/
theorem put_tl {m : Str → Ty} (hm : ∀ z, IsW z → (m z).wok) {d : D} {r : Told} (h : d.tl = some r) : (d.lf (puD m)).tl = some (r.1.map (Ty.put m), r.2.put m) := by
  refine lf_tl (f := puD m) (h := Ty.put m) (fun _ _ _ => rfl) (fun k hk => tl_of (.is (Ty.ty_d _ ?_))) d.size d r (Nat.le_refl _) h
  induction k with
  | w z => exact hm z hk
  | n g a b i j => exact ⟨i hk.1, j hk.2⟩
end U6

namespace U6
open PySem PySem.Spec PyProof.Rows L2 LamX KT
open PySem.W (Frag)
theorem fm_tl {u : D} {r : Told} (h : u.tl = some r) : Fm u := (allK_fm (tl_allK _ u r (Nat.le_refl _) h)).1
/-- as many cuts, what ever stands at the leaves, if no cuts stand there -/
theorem lf_cuts {f : Ty → D} (hf : ∀ k : Ty, k.wok → cutsN (f k) = 0) (hs : ∀ u r, D.tl u = some r → ∃ r', (u.lf f).tl = some r') : ∀ (n : Nat) (u : D) (r : Told), u.size ≤ n → u.tl = some r → cutsN (u.lf f) = cutsN u := by
  intro n
  induction n with
  | zero => intro u r h; have := u.size_pos; omega
  | succ n ih =>
    intro u r hz hu
    obtain ⟨r', hr'⟩ := hs u r hu
    have f0 := fm_tl hu
    have f1 := fm_tl hr'
    rw [cuts_sum f0]
    cases tl_inv hu with
    | @is x k hk =>
      rw [lf_is hk, hf k (D.ty_wok hk)]
      simp [D.isCut, D.parts]
    | @om x rx _ h1 h2 =>
      simp only [D.size, sizeAll] at hz
      have i := ih x rx (by omega) h1
      rw [lf_om] at f1 ⊢
      rw [cuts_sum f1]
      simp [D.isCut, D.parts, i]
    | @um x rx _ h1 h2 =>
      simp only [D.size, sizeAll] at hz
      have i := ih x rx (by omega) h1
      rw [lf_um] at f1 ⊢
      rw [cuts_sum f1]
      simp [D.isCut, D.parts, i]
    | @tm x y rx ry h1 h2 =>
      simp only [D.size, sizeAll] at hz
      have i := ih x rx (by omega) h1
      have j := ih y ry (by omega) h2
      rw [lf_tm] at f1 ⊢
      rw [cuts_sum f1]
      simp [D.isCut, D.parts, i, j]
    | @tu p y ry _ h1 h2 =>
      simp only [D.size, sizeAll] at hz
      have j := ih y ry (by omega) h1
      rw [lf_tu] at f1 ⊢
      rw [cuts_sum f1]
      simp [D.isCut, D.parts, j]
    | @us nm p x y rx ry _ c h1 h2 h3 =>
      simp only [D.size, sizeAll] at hz
      have i := ih x rx (by omega) h1
      have j := ih y ry (by omega) h2
      rw [lf_us] at f1 ⊢
      rw [cuts_sum f1]
      simp [D.isCut, D.parts, i, j]
theorem opD_cuts : ∀ {t : Ty}, t.wok → cutsN (opD t) = 0
  | .w z, h => by
    rw [cuts_sum (fm_tl (opD_tl _ h))]
    simp [opD, D.isCut, D.parts]
  | .n g a b, h => by
    have i := opD_cuts h.1
    have j := opD_cuts h.2
    have q := opD_tl (.n g a b) h
    have ta := opD_tl a h.1
    have tb := opD_tl b h.2
    have f0 := fm_tl q
    rw [cuts_sum f0]
    cases g with
    | ov =>
      cases tl_inv q with
      | om h1 h2 =>
        have f1 := fm_tl h1
        simp only [opD, D.isCut, D.parts]
        simp [cuts_sum f1, D.isCut, D.parts, i, j]
    | un =>
      cases tl_inv q with
      | um h1 h2 =>
        have f1 := fm_tl h1
        simp only [opD, D.isCut, D.parts]
        simp [cuts_sum f1, D.isCut, D.parts, i, j]
    | th =>
      have f1 := fm_tl (tl_of (.tm ta tb))
      simp only [opD, D.isCut, D.parts]
      simp [cuts_sum f1, D.isCut, D.parts, i, j]
theorem spelt_cuts {d : D} {r : Told} (h : d.tl = some r) : cutsN (d.lf opD) = cutsN d := lf_cuts (fun k hk => opD_cuts hk) (fun u r h => ⟨r, spelt_tl h⟩) d.size d r (Nat.le_refl _) h
/-- plain types alone at the leaves -/
def PlL (u : D) : Prop := ∀ k ∈ leaves u, ∃ z, k = .w z
theorem pll_of {nm : Str} {l : List D} {r : Told} (h : (D.t (.s nm :: l)).tl = some r) (hne : nm ≠ "is") (hp : ∀ p ∈ (D.t (.s nm :: l)).parts, PlL p) : PlL (.t (.s nm :: l)) := fun k hk => by
  obtain ⟨p, h1, h2⟩ := (leaves_mem h hne k).mp hk
  exact hp p h1 k h2
end U6

namespace U6
open PySem PySem.Spec PyProof.Rows L2 LamX KT
open PySem.W (Frag)
theorem pll_1 {nm : Str} {x : D} {r : Told} (h : (D.t [.s nm, x]).tl = some r) (hne : nm ≠ "is") (hx : PlL x) : PlL (.t [.s nm, x]) := pll_of h hne fun p hp => by
  simp only [D.parts, if_neg hne, List.mem_singleton] at hp
  rw [hp]; exact hx
theorem pll_tu {p : D} {x : D} {r : Told} (h : (D.t [.s "then used", p, x]).tl = some r) (hx : PlL x) : PlL (.t [.s "then used", p, x]) := pll_of h (by decide) fun q hq => by
  simp only [D.parts, if_pos, List.mem_singleton] at hq
  rw [hq]; exact hx
theorem pll_tm {x y : D} {r : Told} (h : (D.t [.s "then made", x, y]).tl = some r) (hx : PlL x) (hy : PlL y) : PlL (.t [.s "then made", x, y]) := pll_of h (by decide) fun q hq => by
  have e : ("then made" : Str) ≠ "then used" := by decide
  simp only [D.parts, if_neg e, List.mem_cons, List.not_mem_nil, or_false] at hq
  rcases hq with e | e
  · rw [e]; exact hx
  · rw [e]; exact hy
theorem pll_4 {nm : Str} {p : Int} {x y : D} {r : Told} (h : (D.t [.s nm, .i p, x, y]).tl = some r) (hx : PlL x) (hy : PlL y) : PlL (.t [.s nm, .i p, x, y]) := pll_of h (ne_is4 h) fun q hq => by
  simp only [D.parts, List.mem_cons, List.not_mem_nil, or_false] at hq
  rcases hq with e | e
  · rw [e]; exact hx
  · rw [e]; exact hy
theorem pll_op : ∀ {t : Ty}, t.wok → PlL (opD t)
  | .w z, h => fun k hk => by
    have e : (D.s z).ty = some (.w z) := by simp only [D.ty]; rw [if_pos (isWB_of h)]
    have q : leaves (opD (.w z)) = [.w z] := leaves_is e
    rw [q, List.mem_singleton] at hk
    exact ⟨z, hk⟩
  | .n g a b, h => by
    have i := pll_op h.1
    have j := pll_op h.2
    have q := opD_tl (.n g a b) h
    have ta := opD_tl a h.1
    have tb := opD_tl b h.2
    cases g with
    | ov =>
      obtain ⟨rx, h1, _⟩ : ∃ rx, (D.t [.s "over used", .i 0, opD b, opD a]).tl = some rx ∧ True := by
        cases tl_inv q with
        | om h1 h2 => exact ⟨_, h1, trivial⟩
      exact pll_1 q (by decide) (pll_4 h1 j i)
    | un =>
      obtain ⟨rx, h1, _⟩ : ∃ rx, (D.t [.s "under used", .i 0, opD a, opD b]).tl = some rx ∧ True := by
        cases tl_inv q with
        | um h1 h2 => exact ⟨_, h1, trivial⟩
      exact pll_1 q (by decide) (pll_4 h1 i j)
    | th => exact pll_tu q (pll_tm (tl_of (.tm ta tb)) i j)
/-- spelt out, plain types alone stand at the leaves -/
theorem spelt_pll : ∀ (n : Nat) (u : D) (r : Told), u.size ≤ n → u.tl = some r → PlL (u.lf opD) := by
  intro n
  induction n with
  | zero => intro u r h; have := u.size_pos; omega
  | succ n ih =>
    intro u r hz hu
    have hr' := spelt_tl hu
    cases tl_inv hu with
    | @is x k hk => rw [lf_is hk]; exact pll_op (D.ty_wok hk)
    | @om x rx _ h1 h2 =>
      simp only [D.size, sizeAll] at hz
      rw [lf_om] at hr' ⊢
      exact pll_1 hr' (by decide) (ih x rx (by omega) h1)
    | @um x rx _ h1 h2 =>
      simp only [D.size, sizeAll] at hz
      rw [lf_um] at hr' ⊢
      exact pll_1 hr' (by decide) (ih x rx (by omega) h1)
    | @tm x y rx ry h1 h2 =>
      simp only [D.size, sizeAll] at hz
      rw [lf_tm] at hr' ⊢
      exact pll_tm hr' (ih x rx (by omega) h1) (ih y ry (by omega) h2)
    | @tu p y ry _ h1 h2 =>
      simp only [D.size, sizeAll] at hz
      rw [lf_tu] at hr' ⊢
      exact pll_tu hr' (ih y ry (by omega) h1)
    | @us nm p x y rx ry _ c h1 h2 h3 =>
      simp only [D.size, sizeAll] at hz
      rw [lf_us] at hr' ⊢
      exact pll_4 hr' (ih x rx (by omega) h1) (ih y ry (by omega) h2)
theorem turned_dep (t : Ty) : t.turned.d.dep = t.d.dep ∧ t.turned.d.size = t.d.size := by
  induction t with
  | w z => exact ⟨rfl, rfl⟩
  | n g a b i j => exact ⟨by simp only [Ty.turned, dep_n, i.1, j.1]; omega, by simp only [Ty.turned, Ty.d, D.size, sizeAll, i.2, j.2]; omega⟩
/-- turned about it is as deep and as large -/
theorem ab_dep : ∀ (n : Nat) (u : D) (r : Told), u.size ≤ n → u.tl = some r → u.ab.dep = u.dep ∧ u.ab.size = u.size := by
  intro n
  induction n with
  | zero => intro u r h; have := u.size_pos; omega
  | succ n ih =>
    intro u r hz hu
    cases tl_inv hu with
    | @is x k hk =>
      obtain ⟨t1, t2⟩ := turned_dep k
      rw [ab_is hk]
      rw [D.ty_d hk] at t1 t2
      simp only [D.dep, depAll, D.size, sizeAll, t1, t2, and_self]
    | @om x rx _ h1 h2 =>
      simp only [D.size, sizeAll] at hz
      obtain ⟨i1, i2⟩ := ih x rx (by omega) h1
      rw [ab_om]
      simp only [D.dep, depAll, D.size, sizeAll, i1, i2, and_self]
    | @um x rx _ h1 h2 =>
      simp only [D.size, sizeAll] at hz
      obtain ⟨i1, i2⟩ := ih x rx (by omega) h1
      rw [ab_um]
      simp only [D.dep, depAll, D.size, sizeAll, i1, i2, and_self]
    | @tm x y rx ry h1 h2 =>
      simp only [D.size, sizeAll] at hz
      obtain ⟨i1, i2⟩ := ih x rx (by omega) h1
      obtain ⟨j1, j2⟩ := ih y ry (by omega) h2
      rw [ab_tm]
      simp only [D.dep, depAll, D.size, sizeAll, i1, i2, j1, j2]
      omega
    | @tu p y ry _ h1 h2 =>
      simp only [D.size, sizeAll] at hz
      obtain ⟨j1, j2⟩ := ih y ry (by omega) h1
      rw [ab_tu]
      simp only [D.dep, depAll, D.size, sizeAll, j1, j2, and_self]
    | @us nm p x y rx ry _ c h1 h2 h3 =>
      simp only [D.size, sizeAll] at hz
      obtain ⟨i1, i2⟩ := ih x rx (by omega) h1
      obtain ⟨j1, j2⟩ := ih y ry (by omega) h2
      rw [ab_us]
      simp only [D.dep, depAll, D.size, sizeAll, i1, i2, j1, j2, and_self]
end U6

namespace U6
open PySem PySem.Spec PyProof.Rows L2 NdefX LamX KT
open PySem.W (Frag)
/-- two values the other way round -/
def sw {α : Type} : List α → List α
  | [a, b] => [b, a]
  | _ => []
theorem sw_vals {zs : List V} {ws : List Value} (h : Vals zs ws) : Vals (sw zs) (sw ws) := by
  cases h with
  | nil => exact .nil
  | cons a h =>
    cases h with
    | nil => exact .nil
    | cons b h =>
      cases h with
      | nil => exact .cons b (.cons a .nil)
      | cons _ _ => exact .nil
theorem same_list {H : Hp} {k : Nat} {a b : Addr} {xs ys : List V} (ha : H a = some (.lst xs)) (hb : H b = some (.lst ys)) (h : Paired (SameDt H k) xs ys) (hz : xs.length ≤ 1000000) : SameDt H (k + 1) (.ref a) (.ref b) :=
  .inr ⟨a, b, xs, ys, rfl, rfl, .inl ⟨ha, hb⟩, h.length, hz, fun i x y h1 h2 => by
    obtain ⟨y', e1, e2⟩ := paired_get h h1
    rw [h2] at e1
    cases e1
    exact e2⟩
theorem same_tup {H : Hp} {k : Nat} {a b : Addr} {xs ys : List V} (ha : H a = some (.tup xs)) (hb : H b = some (.tup ys)) (h : Paired (SameDt H k) xs ys) (hz : xs.length ≤ 1000000) : SameDt H (k + 1) (.ref a) (.ref b) :=
  .inr ⟨a, b, xs, ys, rfl, rfl, .inr ⟨ha, hb⟩, h.length, hz, fun i x y h1 h2 => by
    obtain ⟨y', e1, e2⟩ := paired_get h h1
    rw [h2] at e1
    cases e1
    exact e2⟩
theorem nodup_inr {ys : List Str} (h : ys.Nodup) : (ys.map (Sum.inr : Str → Key)).Nodup := List.pairwise_map.mpr (List.Pairwise.imp (fun n e => n (Sum.inr.inj e)) h)
theorem valV_mem : ∀ {kvs : List (Key × V)} {k : Key}, k ∈ kvs.map (·.1) → ∃ x, valV kvs k = some x ∧ (k, x) ∈ kvs
  | [], k, h => by cases h
  | p :: r, k, h => by
    by_cases e : p.1 = k
    · exact ⟨p.2, valV_pos e, by rw [← e]; exact List.mem_cons_self⟩
    · obtain ⟨x, h1, h2⟩ := valV_mem (kvs := r) (k := k) ((List.mem_cons.mp h).resolve_left fun z => e z.symm)
      exact ⟨x, by rw [valV_neg e]; exact h1, List.mem_cons_of_mem _ h2⟩
theorem scl_key (k : Key) : Scl (kV k) := by
  cases k with
  | inl i => exact .i i
  | inr z => exact .s z
theorem same_items {H : Hp} {ts us : List Addr} {kvs : List (Key × V)} (h1 : Paired (fun (t : Addr) (q : Key × V) => H t = some (.tup [kV q.1, q.2])) ts kvs) (h2 : Paired (fun (t : Addr) (q : Key × V) => H t = some (.tup [kV q.1, q.2])) us kvs)
    (h : ∀ q ∈ kvs, SameDt H 2 q.2 q.2) : Paired (SameDt H 3) (ts.map V.ref) (us.map V.ref) := by
  induction h1 generalizing us with
  | nil => cases h2; exact .nil
  | cons e _ ih =>
    cases h2 with
    | cons e' r' => exact .cons (same_tup e e' (.cons (.scl (scl_key _)) (.cons (h _ List.mem_cons_self) .nil)) (by show 2 ≤ 1000000; omega)) (ih r' fun q hq => h q (List.mem_cons_of_mem _ hq))
/-- the words of the leaves -/
theorem leaf_dep {d : D} {r : Told} (h : d.tl = some r) {k : Ty} (hk : k ∈ leaves d) : k.d.dep ≤ d.dep ∧ k.wok := by
  obtain ⟨u, hu, e⟩ := List.mem_filterMap.mp hk
  obtain ⟨_, b2⟩ := nodes_bd d.size d (Nat.le_refl _) (tl_allK _ d r (Nat.le_refl _) h) u hu
  unfold leafTy at e
  split at e
  · split at e
    · have q := D.ty_d e
      have q2 := D.ty_wok e
      refine ⟨?_, q2⟩
      rw [q]
      simp only [D.dep, depAll] at b2
      omega
    · cases e
  · cases e
theorem leaves_ne {d : D} {r : Told} (h : d.tl = some r) : leaves d ≠ [] := fun z => by
  have q := (told_words (zs := []) d.size d r (Nat.le_refl _) h (fun k hk => by rw [z] at hk; cases hk)).2
  have l := r.2.words_len
  cases e : r.2.words with
  | nil => rw [e] at l; simp at l
  | cons x xs => exact absurd (q x (by rw [e]; exact List.mem_cons_self)) (by simp)
theorem wordsAll_len : ∀ ts : List Ty, (wordsAll ts).length ≤ sizes ts
  | [] => by simp [wordsAll, sizes]
  | t :: ts => by
    have i := wordsAll_len ts
    have l := t.words_len
    have s := t.size_signs
    unfold wordsAll at i ⊢
    rw [List.flatMap_cons, List.length_append]
    simp only [sizes]
    omega
theorem sizes_mem : ∀ {ts : List Ty} {t : Ty}, t ∈ ts → t.size ≤ sizes ts
  | x :: ts, t, h => by
    simp only [sizes]
    rcases List.mem_cons.mp h with rfl | h
    · omega
    · have := sizes_mem h; omega
theorem tabs_kb {T : List (Addr × Str)} {H H' : Hp} {a : Addr} {n : Nat} (t : Tabs T H) (p : PurseAt H a n) (k : KeepBut a H H') : Tabs T H' := by
  obtain ⟨p0, p1, p2, p3, e, rr⟩ := p
  exact tabs_but t e (fun ps z => by cases z) (fun c q z => by cases z) fun b u h n => k _ _ h n
theorem PurseAt.same' {H H' : Hp} {a n : Nat} (h : PurseAt H a n) (s : Same H H') : PurseAt H' a n := h.ext (extn_same s)
/-- what stands while a derivation is looked at -/
structure CB (T : List (Addr × Str)) (H0 : Hp) (a : Addr) (v : V) (d : D) (M : Addr) (ms : List V) (row : List Ty) (g : V) (goal : Ty) (L : Addr) (zs : List Str) (n : Nat) (H : Hp) : Prop where
  k : KN a H0 H
  t : Tabs T H
  p : PurseAt H a n
  M : H M = some (.lst ms)
  m : Tys H ms row
  w : TyAt H g goal
  d : DAt H v d
  l : H L = some (.lst (zs.map V.str))
section
variable {T : List (Addr × Str)} {H0 : Hp} {a : Addr} {v : V} {d : D} {M : Addr} {ms : List V} {row : List Ty} {g : V} {goal : Ty} {L : Addr} {zs : List Str} {n : Nat} {H H' : Hp}
theorem CB.ext (c : CB T H0 a v d M ms row g goal L zs n H) (e : ExtN H H') (t : Tabs T H') : CB T H0 a v d M ms row g goal L zs n H' :=
  ⟨c.k.trans (.of_ext e), t, c.p.ext e, extn_lst e c.M, c.m.mono (extn_tk e), c.w.mono (extn_tk e), c.d.mono (extn_tk e), extn_lst e c.l⟩
theorem CB.same (c : CB T H0 a v d M ms row g goal L zs n H) (s : Same H H') : CB T H0 a v d M ms row g goal L zs n H' := c.ext (extn_same s) (c.t.ext s)
theorem CB.but {n' : Nat} (c : CB T H0 a v d M ms row g goal L zs n H) (nM : M ≠ a) (nL : L ≠ a) (k : KeepBut a H H') (p : PurseAt H' a n') : CB T H0 a v d M ms row g goal L zs n' H' :=
  ⟨c.k.trans (.of_but k), tabs_kb c.t c.p k, p, k _ _ c.M nM, c.m.mono (TK.of_keepBut k c.p), c.w.mono (TK.of_keepBut k c.p), c.d.mono (TK.of_keepBut k c.p), k _ _ c.l nL⟩
theorem CB.le {n' : Nat} (c : CB T H0 a v d M ms row g goal L zs n H) (h : n ≤ n') : CB T H0 a v d M ms row g goal L zs n' H := ⟨c.k, c.t, c.p.mono h, c.M, c.m, c.w, c.d, c.l⟩
end
end U6

namespace U6
open PySem PySem.Spec PyProof.Rows L2 NdefX LamX KT
open PySem.W (Frag)
section
variable {P : Program} {w : World} {K : Frag} {mg : Str → Option Value} {base : Heap} {Tb : List (Addr × Str)}
theorem ok_changesRight {f fT fE fTD fA fTo fLT fD fK fSh fPW fEn fWP fPA fLP fPO fLC fCu : Addr} {fd dT dE dTD dA dTo dLT dD dK dSh dPW dEn dWP dPA dLP dPO dLC dCu : FuncData} (T0 : Top K mg "_law_changes_right" sLChangesRight pLChangesRight f fd)
    (R0 : HRs P w K mg base Tb fT fE fTD fA fTo fLT fD fK fSh fPW fEn fWP fPA fLP fPO fLC fCu dT dE dTD dA dTo dLT dD dK dSh dPW dEn dWP dPA dLP dPO dLC dCu) (B : Blt mg) : FnOk P w K mg base CX0 124 f fd pLChangesRight (spChangesRight Tb) := by
  obtain ⟨TT, TE, TTD, TA, TTo, TLT, TD, TK_, TSh, TPW, TEn, TWP, TPA, TLP, TPO, TLC, TCu, GT, GE, GTD, GA, GTo, GLT, GD, GK, GSh, GPW, GEn, GWP, GPA, GLP, GPO, GLC, GCu⟩ := R0
  have KTD := KT.kbinds_mk (ps := ["derivation"]) (ks := ["derivation"]) TTD.F (by decide) (fun {α} ws => ws) (fun _ _ _ _ _ _ ws hl => match ws, hl with | [_], _ => rfl) (fun r => r)
  have KPO := KT.kbinds_mk (ps := ["derivation"]) (ks := ["derivation"]) TPO.F (by decide) (fun {α} ws => ws) (fun _ _ _ _ _ _ ws hl => match ws, hl with | [_], _ => rfl) (fun r => r)
  have KWP := KT.kbinds_mk (ps := ["derivation", "sent"]) (ks := ["sent", "derivation"]) TWP.F (by decide) (fun {α} ws => sw ws) (fun _ _ _ _ _ _ ws hl => match ws, hl with | [_, _], _ => rfl) sw_vals
  refine T0.F.ok scLChangesRight (fun vs H Q E h => ?_) (fun cdv A outer s H vs Q E hr h => ?_)
  · obtain ⟨_, _, _, _, _, _, _, rfl, _⟩ := h
    rfl
  · obtain ⟨a, L, n, zs, v, d, r, rfl, dr, hn, hzl, hlw, hd, et, hne, hl6, hdp, hz, hT, k⟩ := h
    have hrT := hr
    have hr2 : Room 2 _ := hr.mono (by decide)
    have hr3 : Room 3 _ := hr.mono (by decide)
    have hr6 : Room 6 _ := hr.mono (by decide)
    have hr7 : Room 7 _ := hr.mono (by decide)
    have hr9 : Room 9 _ := hr.mono (by decide)
    have hr10 : Room 10 _ := hr.mono (by decide)
    have hr31 : Room 31 _ := hr.mono (by decide)
    have hr32 : Room 32 _ := hr.mono (by decide)
    have hr61 : Room 61 _ := hr.mono (by decide)
    have hr62 : Room 62 _ := hr.mono (by decide)
    have hr63 : Room 63 _ := hr.mono (by decide)
    refine ⟨_, (pss_cons (ps_asg (pe_call GT hrT rfl TT.g TT.F.kp TT.b .nil pass0 (pa_cons (pv 2) pa_nil)) (pg_lst (by rfl) (pgs_cons (pg_name (i := 3) scLChangesRight.nd rfl (Or.inl rfl)) (pgs_cons (pg_name (i := 4) scLChangesRight.nd rfl (Or.inl rfl)) pgs_nil))))
      (pss_cons (ps_set (i := 5) scLChangesRight.nd rfl (Or.inl rfl) (KT.pe_callK0 GTD hr10 rfl TTD.g TTD.F.kp KTD pass0 (pk_cons (pv 2) pk_nil)))
      (pss_cons (ps_if (pt_not (pt_val (pe_call GE hr61 rfl TE.g TE.F.kp TE.b .nil pass0 (pa_cons (pe_lst (pa_cons (pv 5) (pa_cons (pe_call GTD hr10 rfl TTD.g TTD.F.kp TTD.b .nil pass0 (pa_cons (pv 5) pa_nil)) pa_nil))) (pa_cons (pe_lst (pa_cons (pe_call GA hr63 rfl TA.g TA.F.kp TA.b .nil pass0 (pa_cons (pv 2) pa_nil)) (pa_cons (pv 2) pa_nil))) pa_nil))))) pss_never pss_nil)
      (pss_cons (ps_if (pt_not (pt_val (pe_call GE hr61 rfl TE.g TE.F.kp TE.b .nil pass0 (pa_cons (pe_call GTo hr7 rfl TTo.g TTo.F.kp TTo.b .nil pass0 (pa_cons (pv 5) pa_nil)) (pa_cons (pe_tup (pa_cons (pe_lc (own := [("kind", 11)]) (g := (gName 11)) (tt := tYes) rfl scLChangesRight.nd (pi_list (pe_revL (pv 3))) (blkOk_by (N := nLChangesRight) (sc := defScope sLChangesRight) (by decide +kernel)) (fun _ _ _ _ _ => pg_name (i := 11) scLChangesRight.nd rfl (Or.inl rfl)) (fun _ _ _ _ _ => pts_nil) (fun _ _ _ _ _ => (pe_call GLT hr31 rfl TLT.g TLT.F.kp TLT.b .nil pass0 (pa_cons (pv 11) pa_nil)))) (pa_cons (pe_call GLT hr31 rfl TLT.g TLT.F.kp TLT.b .nil pass0 (pa_cons (pv 4) pa_nil)) pa_nil))) pa_nil))))) pss_never pss_nil)
      (pss_cons (ps_set (i := 6) scLChangesRight.nd rfl (Or.inr rfl) (pe_callTy (call_dictP rfl) (by rfl) B.dict (by decide +kernel) (pa_cons (pe_lc (own := [("word", 10)]) (g := (gName 10)) (tt := tYes) rfl scLChangesRight.nd (pi_list (pe_call GSh hr3 rfl TSh.g TSh.F.kp TSh.b .nil pass0 (pa_cons (pv 0) (pa_cons (pe_call GPW hr32 rfl TPW.g TPW.F.kp TPW.b .nil pass0 (pa_cons (pe_call GEn hr61 rfl TEn.g TEn.F.kp TEn.b .nil pass0 (pa_cons (pv 2) pa_nil)) pa_nil)) pa_nil)))) (blkOk_by (N := nLChangesRight) (sc := defScope sLChangesRight) (by decide +kernel)) (fun _ _ _ _ _ => pg_name (i := 10) scLChangesRight.nd rfl (Or.inl rfl)) (fun _ _ _ _ _ => pts_nil) (fun _ _ _ _ _ => (pe_tup (pa_cons (pv 10) (pa_cons (pe_call GK hr6 rfl TK_.g TK_.F.kp TK_.b .nil pass0 (pa_cons (pv 0) (pa_cons (pv 1) (pa_cons (pe_call GD hr2 rfl TD.g TD.F.kp TD.b .nil pass0 (pa_cons (pv 0) (pa_cons pe_int pa_nil))) pa_nil)))) pa_nil))))) pa_nil)))
      (pss_cons (ps_set (i := 7) scLChangesRight.nd rfl (Or.inl rfl) (LiI.pe_listItems rfl (pv 6) (by rfl) B.list (by decide +kernel)))
      (pss_cons (ps_set (i := 8) scLChangesRight.nd rfl (Or.inl rfl) (KT.pe_callK0 GWP hr10 rfl TWP.g TWP.F.kp KWP pass0 (pk_cons (pv 6) (pk_cons (pv 2) pk_nil))))
      (pss_cons (ps_if (pt_not (pt_val (pe_call GE hr61 rfl TE.g TE.F.kp TE.b .nil pass0 (pa_cons (pe_lst (pa_cons (pv 8) (pa_cons (pe_call GWP hr10 rfl TWP.g TWP.F.kp TWP.b .nil pass0 (pa_cons (pv 2) (pa_cons (pv 6) pa_nil))) (pa_cons (LiI.pe_listItems rfl (pv 6) (by rfl) B.list (by decide +kernel)) pa_nil)))) (pa_cons (pe_op op_cat (pe_op op_rep (pe_lst (pa_cons (pe_call GPA hr31 rfl TPA.g TPA.F.kp TPA.b .nil pass0 (pa_cons (pv 2) (pa_cons (pv 6) pa_nil))) pa_nil)) pe_int) (pe_lst (pa_cons (pv 7) pa_nil))) pa_nil))))) pss_never pss_nil)
      (pss_cons (ps_if (pt_not (pt_val (pe_call GE hr61 rfl TE.g TE.F.kp TE.b .nil pass0 (pa_cons (pe_call GTo hr7 rfl TTo.g TTo.F.kp TTo.b .nil pass0 (pa_cons (pv 8) pa_nil)) (pa_cons (pe_tup (pa_cons (pe_lc (own := [("kind", 11)]) (g := (gName 11)) (tt := tYes) rfl scLChangesRight.nd (pi_list (pv 3)) (blkOk_by (N := nLChangesRight) (sc := defScope sLChangesRight) (by decide +kernel)) (fun _ _ _ _ _ => pg_name (i := 11) scLChangesRight.nd rfl (Or.inl rfl)) (fun _ _ _ _ _ => pts_nil) (fun _ _ _ _ _ => (pe_call GLP hr31 rfl TLP.g TLP.F.kp TLP.b .nil pass0 (pa_cons (pv 11) (pa_cons (pv 6) pa_nil))))) (pa_cons (pe_call GLP hr31 rfl TLP.g TLP.F.kp TLP.b .nil pass0 (pa_cons (pv 4) (pa_cons (pv 6) pa_nil))) pa_nil))) pa_nil))))) pss_never pss_nil)
      (pss_cons (ps_set (i := 9) scLChangesRight.nd rfl (Or.inl rfl) (KT.pe_callK0 GPO hr10 rfl TPO.g TPO.F.kp KPO pass0 (pk_cons (pv 2) pk_nil)))
      (pss_cons (ps_if (PW.pt (pw_or (pt_cmpR (op_neD (hu64 hr)) (pe_call GT hrT rfl TT.g TT.F.kp TT.b .nil pass0 (pa_cons (pv 9) pa_nil)) (pe_lst (pa_cons (pv 3) (pa_cons (pv 4) pa_nil))) (nomark _)) (pw_or1 (pt_not (pt_val (pe_callB (cr_all rfl) (by rfl) B.all (by decide +kernel) (pa_cons (pe_lc (own := [("kind", 11)]) (g := (gName 11)) (tt := tYes) rfl scLChangesRight.nd (pi_list (pe_call GEn hr61 rfl TEn.g TEn.F.kp TEn.b .nil pass0 (pa_cons (pv 9) pa_nil))) (blkOk_by (N := nLChangesRight) (sc := defScope sLChangesRight) (by decide +kernel)) (fun _ _ _ _ _ => pg_name (i := 11) scLChangesRight.nd rfl (Or.inl rfl)) (fun _ _ _ _ _ => pts_nil) (fun _ _ _ _ _ => (pe_callB (show CallR _ (.builtin "isinstance") (rIsi K) from call_isi) (by rfl) B.isi (by decide +kernel) (pa_cons (pv 11) (pa_cons (pe_bltn (v := .ty "str") (by rfl) B.str_ (by decide +kernel) rfl) pa_nil))))) pa_nil))))))) pss_never pss_nil)
      (pss_one (ps_ret (pe_call GE hr61 rfl TE.g TE.F.kp TE.b .nil pass0 (pa_cons (pe_lst (pa_cons (pe_call GLC hr62 rfl TLC.g TLC.F.kp TLC.b .nil pass0 (pa_cons (pv 9) pa_nil)) (pa_cons (pe_call GCu hr9 rfl TCu.g TCu.F.kp TCu.b .nil pass0 (pa_cons (pv 9) pa_nil)) pa_nil))) (pa_cons (pe_op op_rep (pe_lst (pa_cons (pe_call GLC hr62 rfl TLC.g TLC.F.kp TLC.b .nil pass0 (pa_cons (pv 2) pa_nil)) pa_nil)) pe_int) pa_nil)))))))))))))))), ?_⟩
    obtain ⟨row, goal⟩ := r
    have hne : row ≠ [] := hne
    have hl6 : row.length < 6 := hl6
    have bd := tl_bd d.size d _ (Nat.le_refl _) et
    have bdT : ∀ t ∈ row, t.d.dep ≤ 26 := fun t ht => by have := bd.2.1 t ht; omega
    have bdG : goal.d.dep ≤ 26 := by have := bd.2.2; have q : (row, goal).2.d.dep = goal.d.dep := rfl; omega
    have his : d.tl.isSome = true := by rw [et]; rfl
    obtain ⟨abt, aba⟩ := ab_tl d.size d _ (Nat.le_refl _) et
    obtain ⟨abd, abz⟩ := ab_dep d.size d _ (Nat.le_refl _) et
    have hiab : d.ab.tl.isSome = true := by rw [abt]; rfl
    have sz1 : 1 ≤ sizeLine := by rw [sizeLine_eq]; omega
    have sz2 : 2 ≤ sizeLine := by rw [sizeLine_eq]; omega
    have sz3 : 3 ≤ sizeLine := by rw [sizeLine_eq]; omega
    have nL : L ≠ a := dr.ne
    have hZ := dr.z
    -- row, goal
    refine ⟨_, rfl, v, d, rfl, hd, by omega, by omega, by omega, fun v1 H1 s1 r1 => ?_⟩
    rw [et] at r1
    obtain ⟨q, M, ms, g, rfl, eq, eM, hM, hg⟩ := r1
    have hM : Tys H1 ms row := hM
    have hg : TyAt H1 g goal := hg
    refine ⟨q, _, rfl, SqL.of eq, rfl, _, _, rfl, _, _, rfl, rfl, ?_⟩
    dsimp only
    have nM : M ≠ a := row_neP (dr.same s1).p eM hM hne
    have c1 : CB Tb H a v d M ms row g goal L zs n H1 := ⟨.of_same s1, hT.ext s1, (dr.same s1).p, eM, hM, hg, hd.mono (TK.of_same s1), (dr.same s1).l⟩
    clear eM hM hg hd hT dr
    -- late
    refine ⟨_, rfl, v, d, rfl, c1.d, his, by omega, by omega, c1.t, fun v2 H2 e2 T2 h2 => gN ?_⟩
    dsimp only
    have c2 := c1.ext e2 T2
    clear c1
    refine ⟨_, rfl, _, rfl, v2, d.ab, rfl, h2, hiab, by omega, by omega, T2, fun v3 H3 e3 T3 h3 => ⟨sz2, fun A1 nA1 => ?_⟩⟩
    rw [aba] at h3
    have sA1 := same_upd (o := .lst [v2, v3]) nA1
    have eA1 : (upd H3 A1 (.lst [v2, v3])) A1 = some (.lst [v2, v3]) := upd_same
    have c3 := (c2.ext e3 T3).same sA1
    have h2 := (h2.mono (extn_tk e3)).mono (TK.of_same sA1)
    have h3 := h3.mono (TK.of_same sA1)
    generalize upd H3 A1 (.lst [v2, v3]) = H4 at sA1 eA1 c3 h2 h3 ⊢
    clear c2
    refine ⟨_, rfl, v, d, rfl, c3.d, his, by omega, by omega, by omega, fun v4 H5 s5 h4 => ⟨_, rfl, sz2, fun A2 nA2 => ?_⟩⟩
    have sA2 := same_upd (o := .lst [v4, v]) nA2
    have s56 := s5.trans sA2
    refine ⟨_, _, rfl, ?_, fun H6 s6 => ⟨true, rfl, iteF ?_⟩⟩
    · refine (SameDt.lst (k := 30) (s56 _ _ eA1) upd_same rfl (by show 2 ≤ _; omega) (two_same ?_ ?_)).le (by omega)
      · exact (SameDt.d 40000 (by omega) (Nat.le_refl _) (h2.mono (TK.of_same s56)) (h4.mono (TK.of_same sA2))).le (by omega)
      · exact (SameDt.d 40000 (by omega) (Nat.le_refl _) (h3.mono (TK.of_same s56)) ((c3.same s56).d)).le (by omega)
    have c6 := c3.same (s56.trans s6)
    have h2 := h2.mono (TK.of_same (s56.trans s6))
    clear h3 h4 c3 s56 sA2
    -- what late tells
    refine ⟨_, rfl, v2, d.ab, Rt (row, goal), rfl, h2, by omega, by omega, abt, fun v6 H7 s7 r6 => ?_⟩
    obtain ⟨p6, L6, us6, g6, rfl, nL6, ep6, eL6, hT6, hg6⟩ := r6
    have c7 := c6.same s7
    refine ⟨_, rfl, M, ms, rfl, SqL.of c7.M, fun Rv nRv => ?_⟩
    have sR := same_upd (o := .lst ms.reverse) nRv
    have eR : (upd H7 Rv (.lst ms.reverse)) Rv = some (.lst ms.reverse) := upd_same
    have c8 := c7.same sR
    have s68 : Same H7 (upd H7 Rv (.lst ms.reverse)) := sR
    generalize upd H7 Rv (.lst ms.reverse) = H8 at sR eR c8 s68 ⊢
    refine ⟨Rv, rfl, ⟨_, SqL.of eR⟩, fun D1 nD1 => ?_⟩
    have hMr := Tys.rev c8.m
    have lMr := hMr.length
    rw [List.length_reverse, List.length_reverse] at lMr
    refine lc_list (K := K) (xs := ms.reverse) (fun i H' => Same H8 H' ∧ ∃ ys, H' D1 = some (.lst ys) ∧ Tys H' ys ((row.reverse.take i).map Ty.turned))
      ⟨same_upd nD1, [], upd_same, by rw [List.take_zero]; exact .nil⟩ (fun i H' _ q => SqL.of (q.1 _ _ eR)) ?_ ?_
    · rintro i x H' hx ⟨sI, ys, eD, hY⟩
      obtain ⟨t, ht, hxt⟩ := hMr.at_ hx
      have mt := List.mem_reverse.mp (List.mem_of_getElem? ht)
      have ly := hY.length
      rw [List.length_map, List.length_take, List.length_reverse] at ly
      refine ⟨rfl, x, rfl, x, t, rfl, hxt.mono (TK.of_same sI), by have := bdT t mt; omega, fun y H9 s9 hy => ⟨_, s9 _ _ eD, by rw [sizeLine_eq]; omega, same_over (sI.trans s9) nD1, ys ++ [y], upd_same, ?_⟩⟩
      have tkw : TK H9 (upd H9 D1 (.lst (ys ++ [y]))) := TK.upd_lst (s9 _ _ eD)
      rw [List.take_add_one, ht, List.map_append]
      exact ((hY.mono (TK.of_same s9)).mono tkw).append (.cons (hy.mono tkw) .nil)
    rintro H9 ⟨s9, ys, eD, hY⟩
    rw [List.length_reverse, lMr, ← List.length_reverse, List.take_length, List.map_reverse] at hY
    have c9 := c8.same s9
    refine ⟨_, rfl, g, goal, rfl, c9.w, by omega, fun g8 H10 s10 hg8 => ⟨sz2, fun t1 nt1 => ?_⟩⟩
    have st1 := same_upd (o := .tup [.ref D1, g8]) nt1
    have s1011 := s10.trans st1
    have s711 := (s68.trans s9).trans s1011
    refine ⟨_, _, rfl, ?_, fun H11 s11 => ⟨true, rfl, iteF ?_⟩⟩
    · refine (told_same (r := Rt (row, goal)) (k := 26) (s711 _ _ ep6) upd_same (s711 _ _ eL6) (s1011 _ _ eD) (hT6.mono (TK.of_same s711)) (hY.mono (TK.of_same s1011)) (hg6.mono (TK.of_same s711)) (hg8.mono (TK.of_same st1)) ?_ ?_ ?_).le (by omega)
      · show (R row).length ≤ 40000
        rw [R_len]
        omega
      · intro t ht
        obtain ⟨t', h1, rfl⟩ := List.mem_map.mp (List.mem_reverse.mp ht)
        rw [(turned_dep t').1]
        exact bdT t' h1
      · show goal.turned.d.dep ≤ 26
        rw [(turned_dep goal).1]
        exact bdG
    have c11 := c9.same (s1011.trans s11)
    clear hT6 hg6 ep6 eL6 hY hg8 s711 s1011 st1 c9 c8 c7 c6 hMr s68 sR eR h2 eD
    -- sent
    have lne := leaves_ne et
    have lsz := leaves_size d.size d (Nat.le_refl _) his
    refine ⟨_, rfl, _, rfl, v, d, rfl, c11.d, his, by omega, by omega, by omega, fun E us ts H12 s12 nE eE hE mem szs => ?_⟩
    have c12 := c11.same s12
    have tne : ts ≠ [] := fun z => by
      cases e : leaves d with
      | nil => exact lne e
      | cons x xs =>
        have := (mem x).mpr (by rw [e]; exact List.mem_cons_self)
        rw [z] at this
        cases this
    refine ⟨E, us, ts, rfl, eE, hE, tne, fun t ht => ?_, by have := wordsAll_len ts; omega, ⟨zs, by omega, fun t ht z hz => hlw t ((mem t).mp ht) z hz⟩, fun W ys3 H13 hys s13 nW eW => ?_⟩
    · have q1 := sizes_mem ht
      have q2 := (leaf_dep et ((mem t).mp ht)).1
      have q3 := t.size_signs
      omega
    have c13 := c12.same s13
    have lys : ys3.length ≤ 3 := Nat.le_trans (KT.nodup_len ys3 zs hys.nd fun z hz => by
      obtain ⟨t, h1, h2⟩ := (hys.mem z).mp hz
      exact hlw t ((mem t).mp h1) z h2) hzl
    have naW : W ≠ a := fun z => by
      obtain ⟨p0, p1, p2, p3, e, rr⟩ := c12.p
      rw [z, e] at nW
      cases nW
    have m3 : ∀ z, z ∈ ys3 ↔ ∃ t ∈ leaves d, z ∈ t.words := fun z => (hys.mem z).trans ⟨fun ⟨t, h1, h2⟩ => ⟨t, (mem t).mp h1, h2⟩, fun ⟨t, h1, h2⟩ => ⟨t, (mem t).mpr h1, h2⟩⟩
    clear c11 c12 hE eE mem
    refine ⟨a, W, n, ys3, rfl, c13.p, by omega, naW, eW, by omega, fun S ys4 H16 pm kb16 nS eS hp16 => ⟨S, rfl, ⟨_, SqL.of eS⟩, fun D nD => ?_⟩⟩
    have c16 := c13.but nM nL kb16 hp16
    have nSa : S ≠ a := (c13.p.ne nS).symm
    have naD := hp16.ne nD
    have nd4 : ys4.Nodup := pm.nodup_iff.mpr hys.nd
    have m4 : ∀ z, z ∈ ys4 ↔ ∃ t ∈ leaves d, z ∈ t.words := fun z => pm.mem_iff.trans (m3 z)
    have l4 : ys4.length ≤ 3 := by rw [pm.length_eq]; exact lys
    have lp : ys3.length ≤ 3 := lys
    clear m3 hys eW c13
    refine lc_list (K := K) (xs := ys4.map V.str) (fun i H' => KeepBut a H16 H' ∧ PurseAt H' a (n + 3 + 8 * i) ∧ ∃ (ps : List Addr) (kvs : List (Key × V)), H' D = some (.lst (ps.map V.ref)) ∧ kvs.map (·.1) = (ys4.take i).map Sum.inr ∧
        Paired (fun (p : Addr) (kv : Key × V) => p ≠ D ∧ p ≠ a ∧ H' p = some (.tup [kV kv.1, kv.2])) ps kvs ∧ ∀ kv ∈ kvs, ∃ u : Ty, TyAt H' kv.2 u ∧ u.signs ≤ 2)
      ⟨(KeepBut.refl a H16).upd_new nD, (hp16.mono (by omega)).upd naD, [], [], upd_same, by simp, .nil, fun kv h => by cases h⟩ (fun i H' _ q => SqL.of (q.1 _ _ eS nSa)) ?_ ?_
    · rintro i y H17 hy ⟨kb, hpp, ps, kvs, eD, ek, hq, hu⟩
      rw [List.getElem?_map] at hy
      obtain ⟨z, hzi, rfl⟩ := Option.map_eq_some_iff.mp hy
      obtain ⟨hi, _⟩ := List.getElem?_eq_some_iff.mp hzi
      have eL17 := kb _ _ c16.l nL
      refine ⟨rfl, _, rfl, _, rfl, _, rfl, _, rfl, a, _, 3, rfl, hpp, by omega, by omega, by omega, fun d' H18 c0 c1 off hp18 => ?_⟩
      obtain ⟨m, rfl⟩ : ∃ m : Nat, d' = (m : Int) := ⟨d'.toNat, by omega⟩
      have kb18 : KeepBut a H17 H18 := .of_off off
      refine ⟨a, L, _, m, zs, rfl, hp18, by omega, nL, kb18 _ _ eL17 nL, hZ, by omega, fun v' u H19 hv hsg hws kb19 hp19 => ⟨by show 2 ≤ sizeLine; rw [sizeLine_eq]; omega, fun r nr => ?_⟩⟩
      have kbt : KeepBut a H16 H19 := kb.trans (kb18.trans kb19)
      have eD19 := kb19 _ _ (kb18 _ _ eD naD.symm) naD.symm
      have nrD : r ≠ D := fun z => by rw [z, eD19] at nr; cases nr
      have nar := hp19.ne nr
      have eD20 := same_upd (o := .tup [.str z, v']) nr _ _ eD19
      have lq := hq.length
      have lk := congrArg List.length ek
      rw [List.length_map, List.length_map, List.length_take] at lk
      have tk21 : TK H19 (upd (upd H19 r (.tup [.str z, v'])) D (.lst (ps.map V.ref ++ [.ref r]))) := (TK.upd_new nr).trans (TK.upd_lst eD20)
      refine ⟨_, eD20, by rw [List.length_map, sizeLine_eq]; omega, fun b o e nb => ?_, ((hp19.mono (by omega)).upd nar).upd naD, ps ++ [r], kvs ++ [(Sum.inr z, v')], by rw [upd_same, List.map_append]; rfl, ?_, ?_, ?_⟩
      · have q := kbt b o e nb
        rw [upd_ne (ne_of_none e nD), upd_ne (ne_of_none q nr)]
        exact q
      · rw [List.map_append, ek, List.take_add_one, hzi, List.map_append]
        rfl
      · refine Paired.snoc (L2.Paired.mapP hq fun p kv q => ⟨q.1, q.2.1, ?_⟩) ⟨nrD, nar.symm, ?_⟩
        · have q3 := kb19 _ _ (kb18 _ _ q.2.2 q.2.1) q.2.1
          rw [upd_ne q.1, upd_ne (ne_of_none q3 nr)]
          exact q3
        · rw [upd_ne nrD, upd_same]
          rfl
      · intro kv hkv
        rcases List.mem_append.mp hkv with h | h
        · obtain ⟨u', h1, h2⟩ := hu kv h
          exact ⟨u', h1.mono ((TK.of_keepBut (kb18.trans kb19) hpp).trans tk21), h2⟩
        · rw [List.mem_singleton.mp h]
          exact ⟨u, hv.mono tk21, by omega⟩
    rintro H17 ⟨kb17, hp17, ps, kvs, eD, ek, hq, hu⟩
    rw [List.length_map, List.take_length] at ek
    rw [List.length_map] at hp17
    have c17 := (c16.but nM nL kb17 hp17).le (show n + 3 + 8 * ys4.length ≤ n + 100 by omega)
    refine ⟨D, ps, kvs, rfl, SqL.of eD, L2.Paired.mapP hq fun p kv q => SqT.of q.2.2, fun sent nsent => ?_⟩
    rw [mergeK_nd kvs [] (by rw [List.nil_append, ek]; exact nodup_inr nd4), List.nil_append]
    have ss := same_upd (o := .dK kvs) nsent
    have hd22 := upd_same (H := H17) (a := sent) (o := .dK kvs)
    have c22 := c17.same ss
    have hu22 : ∀ kv ∈ kvs, ∃ u : Ty, TyAt (upd H17 sent (.dK kvs)) kv.2 u ∧ u.signs ≤ 2 := fun kv h => by
      obtain ⟨u, h1, h2⟩ := hu kv h
      exact ⟨u, h1.mono (TK.of_same ss), h2⟩
    generalize upd H17 sent (.dK kvs) = H22 at ss c22 hd22 hu22
    clear hu hq eD c17 c16 kb17 hp17 kb16 hp16 eS
    have lk : kvs.length = ys4.length := by have := congrArg List.length ek; rw [List.length_map, List.length_map] at this; exact this
    obtain ⟨m, hm, hmw, hms⟩ : ∃ m : Str → Ty, (∀ z ∈ ys4, ∃ x', valV kvs (Sum.inr z) = some x' ∧ TyAt H22 x' (m z)) ∧ (∀ z, IsW z → (m z).wok) ∧ ∀ z, (m z).signs ≤ 2 := by
      have hh : ∀ z, ∃ u : Ty, (z ∈ ys4 → ∃ x', valV kvs (Sum.inr z) = some x' ∧ TyAt H22 x' u) ∧ (IsW z → u.wok) ∧ u.signs ≤ 2 := fun z => by
        by_cases hz' : z ∈ ys4
        · obtain ⟨x', h1, h2⟩ := valV_mem (kvs := kvs) (k := Sum.inr z) (by rw [ek]; exact List.mem_map.mpr ⟨z, hz', rfl⟩)
          obtain ⟨u, h3, h4⟩ := hu22 _ h2
          exact ⟨u, fun _ => ⟨x', h1, h3⟩, fun _ => h3.wok, h4⟩
        · exact ⟨.w z, fun h => absurd h hz', fun h => h, by show 0 ≤ 2; omega⟩
      exact ⟨fun z => Classical.choose (hh z), fun z hz => (Classical.choose_spec (hh z)).1 hz, fun z hz => (Classical.choose_spec (hh z)).2.1 hz, fun z => (Classical.choose_spec (hh z)).2.2⟩
    have hmd : ∀ z, (m z).d.dep ≤ 2 := fun z => by have := (ty_dep_small (m z)).1; have := hms z; omega
    have hmz : ∀ z, (m z).d.size ≤ 7 := fun z => by have := d_size (m z); have := hms z; omega
    have hmk : ∀ {H' : Hp}, TK H22 H' → ∀ z ∈ ys4, ∃ x', valV kvs (Sum.inr z) = some x' ∧ TyAt H' x' (m z) := fun tk z hz' => by
      obtain ⟨x', h1, h2⟩ := hm z hz'
      exact ⟨x', h1, h2.mono tk⟩
    have lf1 : (d.lf (puD m)).dep ≤ 28 := by have := lf_dep1 (puD_dep hmd) d.size d _ (Nat.le_refl _) et; omega
    have lf2 : (d.lf (puD m)).size ≤ 21000 := by have := lf_size7 (puD_size hmz) d.size d _ (Nat.le_refl _) et; omega
    have lf3 := put_tl hmw et
    -- kept
    refine ⟨_, rfl, sent, kvs, rfl, hd22, fun H23 kept ts1 k1 k2 k3 k4 k5 k6 => gN ?_⟩
    dsimp only
    have s23 : Same H22 H23 := k1
    have c23 := c22.same s23
    have wps : ∀ {H' : Hp}, TK H22 H' → ∀ z ∈ ys4, ∃ x', valV kvs (Sum.inr z) = some x' ∧ TyAt H' x' (m z) ∧ (m z).size ≤ 1000000 := fun tk z hz' => by
      obtain ⟨x', h1, h2⟩ := hmk tk z hz'
      exact ⟨x', h1, h2, by have := (m z).size_signs; have := hms z; omega⟩
    -- told
    refine ⟨_, rfl, _, rfl, v, d, sent, kvs, ys4, m, rfl, c23.d, his, by omega, by omega, c23.t, s23 _ _ hd22, lk, by omega, nd4, m4, wps (TK.of_same s23), fun v4 H24 e24 T24 hv4 => gN ?_⟩
    dsimp only
    have c24 := c23.ext e24 T24
    have hd24 := extn_dK e24 (s23 _ _ hd22)
    have tk24 : TK H22 H24 := (TK.of_same s23).trans (extn_tk e24)
    refine ⟨_, rfl, _, rfl, _, rfl, v, d, sent, kvs, ys4, m, rfl, c24.d, his, by omega, by omega, T24, hd24, lk, by omega, nd4, m4, wps tk24, fun v5 H25 e25 T25 hv5 => ?_⟩
    have c25 := c24.ext e25 T25
    have hd25 := extn_dK e25 hd24
    refine ⟨_, rfl, sent, kvs, rfl, hd25, fun H26 kl2 ts2 j1 j2 j3 j4 j5 j6 => ⟨sz3, fun l3 nl3 => ?_⟩⟩
    have s26 : Same H25 H26 := j1
    have sl3 := same_upd (o := .lst [v4, v5, .ref kl2]) nl3
    have el3 : (upd H26 l3 (.lst [v4, v5, .ref kl2])) l3 = some (.lst [v4, v5, .ref kl2]) := upd_same
    have s2527 := s26.trans sl3
    have c27 := c25.same s2527
    generalize upd H26 l3 (.lst [v4, v5, .ref kl2]) = H27 at sl3 el3 s2527 c27 ⊢
    have tk27 : TK H22 H27 := tk24.trans ((extn_tk e25).trans (TK.of_same s2527))
    have hd27 := s2527 _ _ hd25
    refine ⟨_, rfl, _, rfl, v, d, sent, kvs, m, rfl, c27.d, his, by omega, by omega, by omega, hd27, fun kk hk z hz => hmk tk27 z ((m4 z).mpr ⟨kk, hk, hz⟩), fun v6 H28 s28 h6 => ⟨sz1, fun l4 nl4 => ?_⟩⟩
    have sl4 := same_upd (o := .lst [v6]) nl4
    refine ⟨l4, 2, [v6], rfl, rfl, upd_same, by decide, by decide, by show 2 ≤ sizeLine; rw [sizeLine_eq]; omega, fun l5 nl5 => ?_⟩
    have sl5 := same_upd (o := .lst [v6, v6]) nl5
    refine ⟨_, rfl, sz1, fun l6 nl6 => ?_⟩
    have sl6 := same_upd (o := .lst [.ref kept]) nl6
    refine ⟨l5, l6, [v6, v6], [.ref kept], rfl, rfl, sl6 _ _ upd_same, upd_same, by show 3 ≤ sizeLine; rw [sizeLine_eq]; omega, fun l7 nl7 => ?_⟩
    have sl7 := same_upd (o := .lst [v6, v6, .ref kept]) nl7
    have s2830 := ((sl4.trans sl5).trans sl6).trans sl7
    have s27f := s28.trans s2830
    refine ⟨_, _, rfl, ?_, fun H30 s30 => ⟨true, rfl, iteF ?_⟩⟩
    · have s25f := s2527.trans s27f
      have h6f := h6.mono (TK.of_same s2830)
      refine (same_list (k := 32) (s27f _ _ el3) upd_same (.cons ?_ (.cons ?_ (.cons ?_ .nil))) (by show 3 ≤ 1000000; omega)).le (by omega)
      · exact (SameDt.d 40000 (by omega) (Nat.le_refl _) (hv4.mono ((extn_tk e25).trans (TK.of_same s25f))) h6f).le (by omega)
      · exact (SameDt.d 40000 (by omega) (Nat.le_refl _) (hv5.mono (TK.of_same s25f)) h6f).le (by omega)
      · refine (same_list (k := 3) ((sl3.trans s27f) _ _ j5) (s25f _ _ (extn_lst e25 (extn_lst e24 k5))) (same_items (L2.Paired.mapP j6 fun p kv q => (sl3.trans s27f) _ _ q) (L2.Paired.mapP k6 fun p kv q => s25f _ _ (ExtN.tup e25 (ExtN.tup e24 q))) fun kv hkv => ?_) ?_).le (by omega)
        · obtain ⟨u, h1, h2⟩ := hu22 kv hkv
          have := h1.mono (tk27.trans (TK.of_same s27f))
          exact (SameDt.ty this this).le h2
        · have := j6.length
          rw [List.length_map]
          omega
    have s24f := s2527.trans (s27f.trans s30)
    have c30 := c25.same s24f
    have hd30 := s24f _ _ hd25
    have hv4' := hv4.mono ((extn_tk e25).trans (TK.of_same s24f))
    have tk30 : TK H22 H30 := tk24.trans ((extn_tk e25).trans (TK.of_same s24f))
    clear s27f s2830 sl7 sl6 sl5 sl4 h6 c27 hd27 tk27 el3 sl3 s2527 j1 j2 j3 j4 j5 j6 hv5 hv4 k1 k2 k3 k4 k5 k6 c23 c24 hd24
    -- what told tells
    have tw := told_words (zs := ys4) d.size d _ (Nat.le_refl _) et fun kk hk z hz => (m4 z).mpr ⟨kk, hk, hz⟩
    refine ⟨_, rfl, v4, d.lf (puD m), (row.map (Ty.put m), goal.put m), rfl, hv4', by omega, by omega, lf3, fun v7 H31 s31 r7 => ?_⟩
    obtain ⟨p7, L7, us7, g7, rfl, nL7, ep7, eL7, hT7, hg7⟩ := r7
    have c31 := c30.same s31
    have hd31 := s31 _ _ hd30
    have tk31 : TK H22 H31 := tk30.trans (TK.of_same s31)
    refine ⟨_, rfl, M, rfl, ⟨_, SqL.of c31.M⟩, fun D3 nD3 => ?_⟩
    have lM := c31.m.length
    refine lc_list (K := K) (xs := ms) (fun i H' => Same H31 H' ∧ ∃ ys, H' D3 = some (.lst ys) ∧ Tys H' ys ((row.take i).map (Ty.put m)))
      ⟨same_upd nD3, [], upd_same, by rw [List.take_zero]; exact .nil⟩ (fun i H' _ q => SqL.of (q.1 _ _ c31.M)) ?_ ?_
    · rintro i x H' hx ⟨sI, ys, eD, hY⟩
      obtain ⟨t, ht, hxt⟩ := c31.m.at_ hx
      have mt := List.mem_of_getElem? ht
      have ly := hY.length
      rw [List.length_map, List.length_take] at ly
      refine ⟨rfl, x, rfl, _, rfl, x, t, sent, kvs, m, rfl, hxt.mono (TK.of_same sI), by have := bdT t mt; omega, sI _ _ hd31, fun z hz => hmk (tk31.trans (TK.of_same sI)) z (tw.1 t mt z hz), fun y H9 s9 hy => ⟨_, s9 _ _ eD, by rw [sizeLine_eq]; omega, same_over (sI.trans s9) nD3, ys ++ [y], upd_same, ?_⟩⟩
      have tkw : TK H9 (upd H9 D3 (.lst (ys ++ [y]))) := TK.upd_lst (s9 _ _ eD)
      rw [List.take_add_one, ht, List.map_append]
      exact ((hY.mono (TK.of_same s9)).mono tkw).append (.cons (hy.mono tkw) .nil)
    rintro H32 ⟨s32, ys, eD, hY⟩
    rw [lM, List.take_length] at hY
    have c32 := c31.same s32
    refine ⟨_, rfl, _, rfl, g, goal, sent, kvs, m, rfl, c32.w, by omega, s32 _ _ hd31, fun z hz => hmk (tk31.trans (TK.of_same s32)) z (tw.2 z hz), fun g8 H33 s33 hg8 => ⟨sz2, fun t3 nt3 => ?_⟩⟩
    have st3 := same_upd (o := .tup [.ref D3, g8]) nt3
    have s3334 := s33.trans st3
    have s3134 := s32.trans s3334
    refine ⟨_, _, rfl, ?_, fun H34 s34 => ⟨true, rfl, iteF ?_⟩⟩
    · refine (told_same (r := (row.map (Ty.put m), goal.put m)) (k := 28) (s3134 _ _ ep7) upd_same (s3134 _ _ eL7) (s3334 _ _ eD) (hT7.mono (TK.of_same s3134)) (hY.mono (TK.of_same s3334)) (hg7.mono (TK.of_same s3134)) (hg8.mono (TK.of_same st3)) ?_ ?_ ?_).le (by omega)
      · show (row.map (Ty.put m)).length ≤ 40000
        rw [List.length_map]
        omega
      · intro t ht
        obtain ⟨t', h1, rfl⟩ := List.mem_map.mp ht
        have := put_dep hmd t'
        have := bdT t' h1
        omega
      · show (goal.put m).d.dep ≤ 28
        have := put_dep hmd goal
        omega
    have c34 := c32.same (s3334.trans s34)
    clear hT7 hg7 ep7 eL7 hY hg8 s3134 s3334 st3 c32 c31 c30 hd31 hd30 hv4' eD
    -- spelt
    have sp1 : (d.lf opD).dep ≤ 52 := by have := lf_dep2 opD_dep d.size d _ (Nat.le_refl _) et; omega
    have sp2 : (d.lf opD).size ≤ 9000 := by have := lf_size3 opD_size3 d.size d _ (Nat.le_refl _) et; omega
    have sp3 := spelt_tl et
    have sp4 := spelt_cuts et
    have sp5 := spelt_pll d.size d _ (Nat.le_refl _) et
    have sp6 : (d.lf opD).tl.isSome = true := by rw [sp3]; rfl
    refine ⟨_, rfl, v, d, rfl, c34.d, his, by omega, by omega, c34.t, fun v9 H35 e35 T35 h9 => gN ?_⟩
    dsimp only
    have c35 := c34.ext e35 T35
    refine ⟨_, rfl, v9, d.lf opD, rfl, h9, by omega, by omega, by omega, fun v10 H36 s36 r10 => ⟨_, rfl, _, rfl, sz2, fun A6 nA6 => ?_⟩⟩
    rw [sp3] at r10
    have sA6 := same_upd (o := .lst [.ref M, g]) nA6
    have c36 := (c35.same s36).same sA6
    have L6' : LRes (upd H36 A6 (.lst [.ref M, g])) (.ref A6) (some (row, goal)) := ⟨A6, M, ms, g, rfl, upd_same, c36.M, c36.m, c36.w⟩
    obtain ⟨D1, D2⟩ := lres_dp (K := K) (r10.same sA6) (fun t ht => by have := bdT t ht; omega) (by show goal.d.dep ≤ 60; omega)
    obtain ⟨E1, E2⟩ := lres_dp (K := K) L6' (fun t ht => by have := bdT t ht; omega) (by show goal.d.dep ≤ 60; omega)
    refine ⟨_, _, D1, E1, D2, E2, ?_⟩
    rw [eqv_lres, decide_eq_true rfl]
    refine ⟨_, rfl, iteF ?_⟩
    have h9 := h9.mono (TK.of_same (s36.trans sA6))
    generalize upd H36 A6 (.lst [.ref M, g]) = H37 at c36 h9 ⊢
    refine ⟨_, rfl, v9, d.lf opD, rfl, h9, sp6, by omega, by omega, by omega, fun E us ts H38 s38 nE eE hE mem szs => ⟨E, rfl, ⟨_, SqL.of eE⟩, fun D5 nD5 => ?_⟩⟩
    refine lc_list (K := K) (xs := us) (fun i H' => Same H38 H' ∧ H' D5 = some (.lst (List.replicate i (.bl true)))) ⟨same_upd nD5, upd_same⟩ (fun i H' _ q => SqL.of (q.1 _ _ eE)) ?_ ?_
    · rintro i x H' hx ⟨sI, eD⟩
      obtain ⟨t, ht, hxt⟩ := hE.at_ hx
      obtain ⟨z, rfl⟩ := sp5 t ((mem t).mp (List.mem_of_getElem? ht))
      have lE := hE.length
      have ls := sizes_len ts
      obtain ⟨hi, _⟩ := List.getElem?_eq_some_iff.mp ht
      cases hxt with
      | @w z h =>
        refine ⟨rfl, _, rfl, _, _, _, _, true, rfl, .ty "str", .base (.str z), kit_ty (by decide +kernel), _, eD, by rw [List.length_replicate, sizeLine_eq]; omega, same_over sI nD5, by rw [upd_same, ← List.replicate_succ']⟩
    rintro H39 ⟨s39, eD⟩
    have rep : (List.replicate us.length true).all id = true := by
      rw [List.all_eq_true]
      intro b hb
      exact (List.mem_replicate.mp hb).2
    refine ⟨D5, List.replicate us.length true, rfl, SqL.of (by rw [eD, List.map_replicate]), true, congrArg V.bl rep, iteF ?_⟩
    have s3739 := s38.trans s39
    have c39 := c36.same s3739
    have h9 := h9.mono (TK.of_same s3739)
    -- the last
    refine ⟨_, rfl, v9, d.lf opD, rfl, h9, sp6, by omega, by omega, fun H40 s40 => ⟨_, rfl, v9, d.lf opD, rfl, h9.mono (TK.of_same s40), by omega, by omega, sp6, fun H41 s41 => ⟨sz2, fun A7 nA7 => ?_⟩⟩⟩
    have sA7 := same_upd (o := .lst [.int (cutsN (d.lf opD) : Nat), .int (((d.lf opD).nodes.filter U6.D.isCut).length : Nat)]) nA7
    have s3942 := (s40.trans s41).trans sA7
    have c42 := c39.same s3942
    refine ⟨_, rfl, v, d, rfl, c42.d, his, by omega, by omega, fun H43 s43 => ⟨sz1, fun l8 nl8 => ?_⟩⟩
    have sl8 := same_upd (o := .lst [.int (cutsN d : Nat)]) nl8
    refine ⟨l8, 2, [.int (cutsN d : Nat)], rfl, rfl, upd_same, by decide, by decide, by show 2 ≤ sizeLine; rw [sizeLine_eq]; omega, fun l9 nl9 => ?_⟩
    have sl9 := same_upd (o := .lst [.int (cutsN d : Nat), .int (cutsN d : Nat)]) nl9
    have s43f := (s43.trans sl8).trans sl9
    refine ⟨_, _, rfl, ?_, fun Hf sf => ?_⟩
    · refine (SameDt.lst (k := 1) (s43f _ _ upd_same) upd_same rfl (by show 2 ≤ _; omega) (two_same ?_ ?_)).le (by omega)
      · rw [sp4]; exact .scl (.i _)
      · have e : (((d.lf opD).nodes.filter U6.D.isCut).length : Nat) = cutsN d := sp4
        rw [e]
        exact .scl (.i _)
    · have cf := c42.same (s43f.trans sf)
      exact k Hf cf.k cf.t cf.p
end
end U6

namespace U6
open PySem PySem.Spec PyProof.Rows L2 NdefX LamX KT
open PySem.W (Frag)
theorem dp_lf (z : Str) (h : IsW z) : ∀ n, (dpD z n).lf opD = dpD z n
  | 0 => lf_is (f := opD) (k := .w z) (by simp only [D.ty]; rw [if_pos (isWB_of h)])
  | n + 1 => by
    have e : (D.t [.s "is", .s z]).lf opD = .t [.s "is", .s z] := dp_lf z h 0
    have i := dp_lf z h n
    show (D.t [.s "over made", .t [.s "over used", .i 0, .t [.s "is", .s z], dpD z n]]).lf opD = _
    rw [lf_om, lf_us, e, i]
    rfl
theorem told_one {H : Hp} {p q n : Addr} {L : Addr} {us : List V} {g kv : V} {t : Ty} {k : Nat} (e1 : H p = some (.lst [.ref L, g])) (e2 : H L = some (.lst us)) (hT : Tys H us [t]) (hg : TyAt H g t) (e3 : H n = some (.lst [kv])) (e4 : H q = some (.lst [.ref n, kv])) (hk : TyAt H kv t) (hd : t.d.dep ≤ 60) :
    LRes H (.ref p) (some ([t], t)) ∧ LRes H (.ref q) (some ([t], t)) := ⟨⟨p, L, us, g, rfl, e1, e2, hT, hg⟩, ⟨q, n, [kv], kv, rfl, e4, e3, .cons hk .nil, hk⟩⟩
structure VRs (P : Program) (w : World) (K : Frag) (mg : Str → Option Value) (base : Heap) (T : List (Addr × Str)) (fPs fPl fD fK fDe fSa fCh fCr fE fTo fT fTD fPO fLT : Addr) (dPs dPl dD dK dDe dSa dCh dCr dE dTo dT dTD dPO dLT : FuncData) : Prop where
  TPs : Top K mg "_law_purses" sLPurses ["script", "few"] fPs dPs
  TPl : Top K mg "_law_plains" sLPlains pLPlains fPl dPl
  TD : Top K mg "_law_draw" sLDraw ["purse", "many"] fD dD
  TKd : Top K mg "_law_kind" sLKind pLKind fK dK
  TDe : Top K mg "_law_derivation" sLDerivation pLDerivation fDe dDe
  TSa : Top K mg "_law_same" sLSame pLSame fSa dSa
  TCh : Top K mg "_law_changes_right" sLChangesRight pLChangesRight fCh dCh
  TCr : Top K mg "_law_cuts_right" sLCutsRight pLCutsRight fCr dCr
  TE : Top K mg "_law_exact" sLExact pLExact fE dE
  TTo : Top K mg "told_by" sToldBy pToldBy fTo dTo
  TT : Top K mg "_law_tells" sLTells pLTells fT dT
  TTD : Top K mg "turned_derivation" sTurnedDerivation pTurnedDerivation fTD dTD
  TPO : Top K mg "plain_out" sPlainOut pPlainOut fPO dPO
  TLT : Top K mg "_law_turned" sLTurned pLTurned fLT dLT
  GPs : FnOk P w K mg base CX0 2 fPs dPs ["script", "few"] (spPurses K)
  GPl : FnOk P w K mg base CX0 5 fPl dPl pLPlains spPlains
  GD : FnOk P w K mg base CX0 2 fD dD ["purse", "many"] spDraw
  GK : FnOk P w K mg base CX0 7 fK dK pLKind (spKind 3)
  GDe : FnOk P w K mg base CX0 65 fDe dDe pLDerivation spLDer
  GSa : FnOk P w K mg base CX0 31 fSa dSa pLSame (spSame 30)
  GCh : FnOk P w K mg base CX0 124 fCh dCh pLChangesRight (spChangesRight T)
  GCr : FnOk P w K mg base CX0 124 fCr dCr pLCutsRight spCutsRight
  GE : FnOk P w K mg base CX0 61 fE dE pLExact (spExact 60)
  GTo : FnOk P w K mg base CX0 7 fTo dTo pToldBy spToldBy
  GT : FnOk P w K mg base CX0 123 fT dT pLTells (spLTells 60)
  GTD : FnOk P w K mg base CX0 10 fTD dTD pTurnedDerivation (spTurnDer T)
  GPO : FnOk P w K mg base CX0 10 fPO dPO pPlainOut (spPlainOut T)
  GLT : FnOk P w K mg base CX0 31 fLT dLT pLTurned (spLTurned 30)
section
variable {P : Program} {w : World} {K : Frag} {mg : Str → Option Value} {base : Heap} {Tb : List (Addr × Str)}
def spLaw6 (K : Frag) (Tb : List (Addr × Str)) : Sp := fun vs H Q _ => ∃ (a : Addr) (ns : List Int), vs = [.ref a] ∧ SqL K H a (ns.map V.int) ∧ Tabs Tb H ∧ ∀ H', Q (.bl true) H'
theorem ok_law6 {f fPs fPl fD fK fDe fSa fCh fCr fE fTo fT fTD fPO fLT : Addr} {fd dPs dPl dD dK dDe dSa dCh dCr dE dTo dT dTD dPO dLT : FuncData} (T0 : Top K mg "law" sLaw pLaw f fd) (R0 : VRs P w K mg base Tb fPs fPl fD fK fDe fSa fCh fCr fE fTo fT fTD fPO fLT dPs dPl dD dK dDe dSa dCh dCr dE dTo dT dTD dPO dLT) (B : Blt mg) : FnOk P w K mg base CX0 125 f fd pLaw (spLaw6 K Tb) := by
  obtain ⟨TPs, TPl, TD, TKd, TDe, TSa, TCh, TCr, TE, TTo, TT, TTD, TPO, TLT, GPs, GPl, GD, GK, GDe, GSa, GCh, GCr, GE, GTo, GT, GTD, GPO, GLT⟩ := R0
  refine T0.F.ok scLaw (fun vs H Q E h => ?_) (fun cdv A outer s H vs Q E hr h => ?_)
  · obtain ⟨_, _, rfl, _⟩ := h
    rfl
  · obtain ⟨a, ns, rfl, hq, hT, k⟩ := h
    have hr2 : Room 2 _ := hr.mono (by decide)
    have hr5 : Room 5 _ := hr.mono (by decide)
    have hr7 : Room 7 _ := hr.mono (by decide)
    have hr10 : Room 10 _ := hr.mono (by decide)
    have hr31 : Room 31 _ := hr.mono (by decide)
    have hr61 : Room 61 _ := hr.mono (by decide)
    have hr65 : Room 65 _ := hr.mono (by decide)
    have hrT : Room 123 _ := hr.mono (by decide)
    refine ⟨_, (pss_cons (ps_for PassesOwn.never rfl (pi_list (pe_call GPs hr2 rfl TPs.g TPs.F.kp TPs.b .nil pass0 (pa_cons (pv 0) (pa_cons pe_int pa_nil)))) (pg_name (i := 1) scLaw.nd rfl (Or.inl rfl))
      (pss_cons (ps_set (i := 2) scLaw.nd rfl (Or.inl rfl) (pe_call GPl hr5 rfl TPl.g TPl.F.kp TPl.b .nil pass0 (pa_cons (pv 1) (pa_cons pe_int pa_nil))))
      (pss_cons (ps_for PassesOwn.never rfl (pi_range1 (by rfl) B.range (pa_cons pe_int pa_nil)) (pg_name (i := 3) scLaw.nd rfl (Or.inl rfl))
      (pss_cons (ps_set (i := 4) scLaw.nd rfl (Or.inl rfl) (pe_call GDe hr65 rfl TDe.g TDe.F.kp TDe.b .nil pass0 (pa_cons (pv 1) (pa_cons (pv 2) (pa_cons (pe_call GD hr2 rfl TD.g TD.F.kp TD.b .nil pass0 (pa_cons (pv 1) (pa_cons pe_int pa_nil))) pa_nil)))))
      (pss_cons (ps_set (i := 5) scLaw.nd rfl (Or.inl rfl) (pe_call GSa hr31 rfl TSa.g TSa.F.kp TSa.b .nil pass0 (pa_cons (pv 4) pa_nil)))
      (pss_cons (ps_if (PW.pt (pw_or (pt_not (pt_val (pe_call GCh hr rfl TCh.g TCh.F.kp TCh.b .nil pass0 (pa_cons (pv 1) (pa_cons (pv 2) (pa_cons (pv 4) pa_nil)))))) (pw_or1 (pt_not (pt_val (pe_call GCr hr rfl TCr.g TCr.F.kp TCr.b .nil pass0 (pa_cons (pv 1) (pa_cons (pv 2) (pa_cons (pv 4) pa_nil))))))))) pss_never pss_nil)
      (pss_one (ps_if (pt_not (pt_val (pe_call GE hr61 rfl TE.g TE.F.kp TE.b .nil pass0 (pa_cons (pe_lst (pa_cons (pv 4) (pa_cons (pe_call GTo hr7 rfl TTo.g TTo.F.kp TTo.b .nil pass0 (pa_cons (pv 4) pa_nil)) pa_nil))) (pa_cons (pe_lst (pa_cons (pv 5) (pa_cons (pe_callTy call_tuple_of (by rfl) B.tuple (by decide +kernel) (pa_cons (pe_call GT hrT rfl TT.g TT.F.kp TT.b .nil pass0 (pa_cons (pv 5) pa_nil)) pa_nil)) pa_nil))) pa_nil))))) pss_never pss_nil))))))
      (pss_cons (ps_par (i := 6) (j := 7) rfl scLaw.nd rfl rfl (by decide) rfl rfl (pa_cons (pe_tup (pa_cons pe_str (pa_cons (pe_ix ix_list (pv 2) pe_int (fun _ _ => rfl)) pa_nil))) (pa_cons (pe_ix ix_list (pv 2) pe_int (fun _ _ => rfl)) pa_nil)) (by rfl))
      (pss_cons (ps_for PassesOwn.never rfl (pi_range1 (by rfl) B.range (pa_cons pe_int pa_nil)) (pg_name (i := 8) scLaw.nd rfl (Or.inl rfl))
      (pss_one (ps_par (i := 6) (j := 7) rfl scLaw.nd rfl rfl (by decide) rfl rfl (pa_cons (pe_tup (pa_cons pe_str (pa_cons (pe_tup (pa_cons pe_str (pa_cons pe_int (pa_cons (pe_tup (pa_cons pe_str (pa_cons (pe_ix ix_list (pv 2) pe_int (fun _ _ => rfl)) pa_nil))) (pa_cons (pv 6) pa_nil))))) pa_nil))) (pa_cons (pe_tup (pa_cons pe_str (pa_cons (pv 7) (pa_cons (pe_ix ix_list (pv 2) pe_int (fun _ _ => rfl)) pa_nil)))) pa_nil)) (by rfl))))
      (pss_cons (ps_if (PW.pt (pw_or (pt_not (pt_val (pe_call GE hr61 rfl TE.g TE.F.kp TE.b .nil pass0 (pa_cons (pe_call GTD hr10 rfl TTD.g TTD.F.kp TTD.b .nil pass0 (pa_cons (pe_call GTD hr10 rfl TTD.g TTD.F.kp TTD.b .nil pass0 (pa_cons (pv 6) pa_nil)) pa_nil)) (pa_cons (pv 6) pa_nil))))) (pw_or1 (pt_cmpR (op_neD (hu64 hr)) (pe_call GT hrT rfl TT.g TT.F.kp TT.b .nil pass0 (pa_cons (pe_call GPO hr10 rfl TPO.g TPO.F.kp TPO.b .nil pass0 (pa_cons (pv 6) pa_nil)) pa_nil)) (pe_lst (pa_cons (pe_lst (pa_cons (pv 7) pa_nil)) (pa_cons (pv 7) pa_nil))) (nomark _))))) pss_never pss_nil)
      (pss_cons (ps_set (i := 7) scLaw.nd rfl (Or.inl rfl) (pe_call GK hr7 rfl TKd.g TKd.F.kp TKd.b .nil pass0 (pa_cons (pv 1) (pa_cons (pv 2) (pa_cons pe_int pa_nil)))))
      (pss_one (ps_if (PW.pt (pw_or (pt_cmpR (op_neD (hu64 hr)) (pe_call GT hrT rfl TT.g TT.F.kp TT.b .nil pass0 (pa_cons (pe_call GPO hr10 rfl TPO.g TPO.F.kp TPO.b .nil pass0 (pa_cons (pe_tup (pa_cons pe_str (pa_cons (pv 7) pa_nil))) pa_nil)) pa_nil)) (pe_lst (pa_cons (pe_lst (pa_cons (pv 7) pa_nil)) (pa_cons (pv 7) pa_nil))) (nomark _)) (pw_or1 (pt_not (pt_val (pe_call GE hr61 rfl TE.g TE.F.kp TE.b .nil pass0 (pa_cons (pe_call GTD hr10 rfl TTD.g TTD.F.kp TTD.b .nil pass0 (pa_cons (pe_tup (pa_cons pe_str (pa_cons (pv 7) pa_nil))) pa_nil)) (pa_cons (pe_tup (pa_cons pe_str (pa_cons (pe_call GLT hr31 rfl TLT.g TLT.F.kp TLT.b .nil pass0 (pa_cons (pv 7) pa_nil)) pa_nil))) pa_nil)))))))) pss_never pss_nil)))))))))
      (pss_one (ps_ret pe_bl))), ?_⟩
    have sz1 : 1 ≤ sizeLine := by rw [sizeLine_eq]; omega
    have sz2 : 2 ≤ sizeLine := by rw [sizeLine_eq]; omega
    have sz3 : 3 ≤ sizeLine := by rw [sizeLine_eq]; omega
    have sz4 : 4 ≤ sizeLine := by rw [sizeLine_eq]; omega
    refine ⟨_, rfl, a, ns, rfl, hq, fun L0 p H1 s1 nL0 np nLp eL0 hp1 => ⟨L0, rfl, ⟨_, SqL.of eL0⟩, ?_⟩⟩
    refine for_list (K := K) (xs := [.ref p]) (fun i σ H' => ∃ (v1 v2 v3 v4 v5 v6 v7 v8 : Option V), σ = [some (.ref a), v1, v2, v3, v4, v5, v6, v7, v8] ∧ H' L0 = some (.lst [.ref p]) ∧ (i = 0 → PurseAt H' p 0 ∧ Tabs Tb H'))
      ⟨none, none, none, none, none, none, none, none, rfl, eL0, fun _ => ⟨hp1, hT.ext s1⟩⟩ (fun i σ H' _ ⟨_, _, _, _, _, _, _, _, _, e, _⟩ => SqL.of e) ?_ ?_
    · rintro i x σ H2 hx ⟨v1, v2, v3, v4, v5, v6, v7, v8, rfl, eL, hpT⟩
      obtain ⟨rfl, rfl⟩ : i = 0 ∧ x = .ref p := by
        match i, hx with
        | 0, hx => exact ⟨rfl, (Option.some.inj hx).symm⟩
        | j + 1, hx => exact absurd hx (by simp)
      obtain ⟨hp, hT2⟩ := hpT rfl
      refine ⟨_, rfl, p, _, 3, rfl, hp, by omega, by omega, by omega, fun Lp zs H3 hz hl3 kb3 nLp3 eLp hp3 => ?_⟩
      have nLpp := (hp.ne nLp3).symm
      have dr3 : Drawn H3 p Lp 60 zs := ⟨hp3.mono (by omega), nLpp, eLp, hz⟩
      have eL3 := kb3 _ _ eL nLp
      have T3 := tabs_kb hT2 hp kb3
      refine ⟨4, rfl, by omega, by omega, ?_⟩
      refine for_range (lo := 0) (n := 4) (fun j σ H' => ∃ (v3 v4 v5 v6 v7 v8 : Option V), σ = [some (.ref a), some (.ref p), some (.ref Lp), v3, v4, v5, v6, v7, v8] ∧ H' L0 = some (.lst [.ref p]) ∧ Drawn H' p Lp (60 + 600 * j) zs ∧ Tabs Tb H')
        ⟨v3, v4, v5, v6, v7, v8, rfl, eL3, dr3, T3⟩ ?_ ?_
      · rintro j σ H4 hj ⟨v3, v4, v5, v6, v7, v8, rfl, eL4, dr4, T4⟩
        refine ⟨_, rfl, _, rfl, _, rfl, p, _, 8, rfl, dr4.p, by omega, by omega, by omega, fun dN H5 c0 c1 off5 hp5 => ?_⟩
        have kb5 : KeepBut p H4 H5 := .of_off off5
        have dr5 := dr4.but kb5 hp5
        have T5 := tabs_kb T4 dr4.p kb5
        refine ⟨p, Lp, _, zs, dN, rfl, dr5, by omega, by omega, by omega, fun v d r H6 kb6 hp6 hd et hne hl hs hdp hsz hlw => gN ?_⟩
        dsimp only
        have dr6 := dr5.but kb6 hp6
        have eL6 := kb6 _ _ (kb5 _ _ eL4 nLp) nLp
        have T6 := tabs_kb T5 dr5.p kb6
        obtain ⟨row, goal⟩ := r
        have hne : row ≠ [] := hne
        have hl : row.length < 6 := hl
        have his : d.tl.isSome = true := by rw [et]; rfl
        refine ⟨_, rfl, v, d, rfl, hd, by omega, by omega, fun kv H7 s7 hk7 => gN ?_⟩
        dsimp only
        have dr7 := dr6.same s7
        refine ⟨_, rfl, _, rfl, _, rfl, p, Lp, _, zs, v, d, (row, goal), rfl, dr7, by omega, by omega, hlw, hd.mono (TK.of_same s7), et, hne, hl, hdp, hsz, T6.ext s7, fun H8 g8 T8 hp8 => ⟨true, rfl, iteF ?_⟩⟩
        have tk8 : TK H7 H8 := g8.tk dr7.p
        have dr8 : Drawn H8 p Lp _ zs := ⟨hp8, nLpp, g8.lst dr7.l nLpp, hz⟩
        have eL8 := g8.lst (s7 _ _ eL6) nLp
        have hd8 := (hd.mono (TK.of_same s7)).mono tk8
        have hk8 := hk7.mono tk8
        refine ⟨_, rfl, _, rfl, _, rfl, p, Lp, _, zs, v, d, (row, goal), rfl, dr8, by omega, hd8, et, hne, hl, hdp, hsz, hlw, fun H9 kb9 hp9 => ⟨true, rfl, iteF ?_⟩⟩
        have T9 := tabs_kb T8 hp8 kb9
        have tk9 : TK H8 H9 := TK.of_keepBut kb9 hp8
        have dr9 := dr8.but kb9 hp9
        have eL9 := kb9 _ _ eL8 nLp
        have hd9 := hd8.mono tk9
        have hk9 := hk8.mono tk9
        have bd := tl_bd d.size d _ (Nat.le_refl _) et
        have bdT : ∀ t ∈ row, t.d.dep ≤ 26 := fun t ht => by have := bd.2.1 t ht; omega
        have bdG : goal.d.dep ≤ 26 := by have := bd.2.2; have q : (row, goal).2.d.dep = goal.d.dep := rfl; omega
        refine ⟨_, rfl, _, rfl, v, d, (row, goal), rfl, hd9, by omega, by omega, et, fun v10 H10 s10 r10 => ⟨sz2, fun A1 nA1 => ?_⟩⟩
        obtain ⟨p8, L8, us8, g8', rfl, nL8, ep8, eL8', hT8', hg8'⟩ := r10
        have sA1 := same_upd (o := .lst [v, .ref p8]) nA1
        refine ⟨_, rfl, _, rfl, kv, d, rfl, hk9.mono (TK.of_same (s10.trans sA1)), by omega, by omega, by omega, fun v11 H11 s11 r11 => ?_⟩
        rw [et] at r11
        obtain ⟨p9, M9, us9, g9, rfl, ep9, eM9', hT9', hg9'⟩ := r11
        refine ⟨p9, _, rfl, .inl ⟨SqL.of ep9, fun tq ntq => ?_⟩⟩
        have sq := same_upd (o := .tup [.ref M9, g9]) ntq
        refine ⟨sz2, fun A2 nA2 => ?_⟩
        have sA2 := same_upd (o := .lst [kv, .ref tq]) nA2
        have sf11 := sq.trans sA2
        have sf10 := (sA1.trans s11).trans sf11
        refine ⟨_, _, rfl, ?_, fun H12 s12 => ⟨true, rfl, iteF ?_⟩⟩
        · refine (SameDt.lst (k := 30) ((s11.trans sf11) _ _ upd_same) upd_same rfl (by show 2 ≤ _; omega) (two_same ?_ ?_)).le (by omega)
          · exact (SameDt.d 40000 (by omega) (Nat.le_refl _) (hd9.mono (TK.of_same (s10.trans sf10))) (hk9.mono (TK.of_same (s10.trans sf10)))).le (by omega)
          · exact told_same (r := (row, goal)) (k := 28) (sf10 _ _ ep8) (sA2 _ _ upd_same) (sf10 _ _ eL8') (sf11 _ _ eM9') (hT8'.mono (TK.of_same sf10)) (hT9'.mono (TK.of_same sf11)) (hg8'.mono (TK.of_same sf10)) (hg9'.mono (TK.of_same sf11)) (by show row.length ≤ _; omega) (fun t ht => by have := bdT t ht; omega) (by show goal.d.dep ≤ 28; omega)
        have sE := (s10.trans sf10).trans s12
        exact ⟨_, _, _, _, _, _, rfl, sE _ _ eL9, { (dr9.same sE) with p := (dr9.same sE).p.mono (by omega) }, T9.ext sE⟩
      · rintro σ H4 ⟨v3, v4, v5, v6, v7, v8, rfl, eL4, dr4, T4⟩
        obtain ⟨x0, hx0, hz0⟩ : ∃ z0, zs[0]? = some z0 ∧ IsW z0 := by
          have l1 := hz.l1
          exact ⟨zs[0], List.getElem?_eq_getElem (by omega), hz.w _ (List.getElem_mem _)⟩
        have hm0 : (zs.map V.str)[0]? = some (V.str x0) := by rw [List.getElem?_map, hx0]; rfl
        refine ⟨_, rfl, Lp, _, _, _, rfl, rfl, SqL.of dr4.l, atI_nat hm0, sz2, fun t0 nt0 => ?_⟩
        have s0 := same_upd (o := .tup [.str "is", .str x0]) nt0
        have dr5 := dr4.same s0
        have eL5 := s0 _ _ eL4
        refine ⟨_, rfl, Lp, _, _, _, rfl, rfl, SqL.of dr5.l, atI_nat hm0, _, _, rfl, ?_⟩
        refine ⟨19, rfl, by omega, by omega, ?_⟩
        refine for_range (lo := 0) (n := 19) (fun i σ H' => ∃ (v3 v4 v5 v8 : Option V) (dv kv : V), σ = [some (.ref a), some (.ref p), some (.ref Lp), v3, v4, v5, some dv, some kv, v8] ∧ H' L0 = some (.lst [.ref p]) ∧ Drawn H' p Lp (60 + 600 * 4) zs ∧ DAt H' dv (dpD x0 i) ∧ TyAt H' kv (dpT x0 i) ∧ Tabs Tb H')
          ⟨v3, v4, v5, v8, _, _, rfl, eL5, dr5, dAt_is upd_same (.s (isW_ok hz0)), .w hz0, T4.ext s0⟩ ?_ ?_
        · rintro i σ H6 hi ⟨v3, v4, v5, v8, dv, kv, rfl, eL6, dr6, hdv, hkv, T6⟩
          refine ⟨_, rfl, Lp, _, _, _, rfl, rfl, SqL.of dr6.l, atI_nat hm0, sz2, fun i1 ni1 => ⟨_, rfl, sz4, fun u1 nu1 => ⟨sz2, fun m1 nm1 => ?_⟩⟩⟩
          have sa := same_upd (o := .tup [.str "is", .str x0]) ni1
          have sb := same_upd (o := .tup [.str "over used", .int 0, .ref i1, dv]) nu1
          have sc := same_upd (o := .tup [.str "over made", .ref u1]) nm1
          have sabc := (sa.trans sb).trans sc
          have dr7 := dr6.same sabc
          refine ⟨_, rfl, _, rfl, Lp, _, _, _, rfl, rfl, SqL.of dr7.l, atI_nat hm0, sz3, fun k1 nk1 => ⟨_, _, rfl, ?_⟩⟩
          have sd := same_upd (o := .tup [.str "over", kv, .str x0]) nk1
          have se := sabc.trans sd
          exact ⟨_, _, _, _, _, _, rfl, se _ _ eL6, dr6.same se, dAt_2 (txtIs _ (by simp)) (sd _ _ upd_same) (dAt_4 (txtIs _ (by simp)) ((sc.trans sd) _ _ upd_same) (dAt_is ((sb.trans (sc.trans sd)) _ _ upd_same) (.s (isW_ok hz0))) (hdv.mono (TK.of_same se))), .n upd_same (hkv.mono (TK.of_same se)) (.w hz0), T6.ext se⟩
        · rintro σ H6 ⟨v3, v4, v5, v8, dv, kv, rfl, eL6, dr6, hdv, hkv, T6⟩
          obtain ⟨z1, z2, z3, z4⟩ := dp_size x0 19
          have etl := dp_tl hz0 19
          have elf := dp_lf x0 hz0 19
          obtain ⟨abt, aba⟩ := ab_tl (dpD x0 19).size (dpD x0 19) _ (Nat.le_refl _) etl
          obtain ⟨abd, abz⟩ := ab_dep (dpD x0 19).size (dpD x0 19) _ (Nat.le_refl _) etl
          generalize dpD x0 19 = DD at hdv z1 z2 etl elf abt aba abd abz
          generalize dpT x0 19 = TT' at hkv z3 z4 etl abt
          have his : DD.tl.isSome = true := by rw [etl]; rfl
          have hia : DD.ab.tl.isSome = true := by rw [abt]; rfl
          refine ⟨_, rfl, dv, DD, rfl, hdv, his, by omega, by omega, T6, fun w1 H7 e7 T7 h7 => ⟨w1, DD.ab, rfl, h7, hia, by omega, by omega, T7, fun w2 H8 e8 T8 h8 => ?_⟩⟩
          rw [aba] at h8
          have hdv8 := (hdv.mono (extn_tk e7)).mono (extn_tk e8)
          refine ⟨_, rfl, _, _, rfl, (SameDt.d 40000 (by omega) (Nat.le_refl _) h8 hdv8).le (by omega), fun H9 s9 => ⟨true, rfl, iteF ?_⟩⟩
          have e69 := (e7.trans e8).trans (extn_same s9)
          have T9 := T8.ext s9
          have hdv9 := hdv8.mono (TK.of_same s9)
          refine ⟨_, rfl, dv, DD, rfl, hdv9, his, by omega, by omega, T9, fun w3 H10 e10 T10 h10 => ?_⟩
          rw [elf] at h10
          refine ⟨w3, DD, rfl, h10, by omega, by omega, by omega, fun w4 H11 s11 r11 => ?_⟩
          rw [etl] at r11
          have e611 := (e69.trans e10).trans (extn_same s11)
          have hkv11 := hkv.mono (extn_tk e611)
          refine ⟨_, rfl, sz1, fun n1 nn1 => ⟨_, rfl, sz2, fun q1 nq1 => ?_⟩⟩
          have sn1 := same_upd (o := .lst [kv]) nn1
          have sq1 := same_upd (o := .lst [.ref n1, kv]) nq1
          have s1113 := sn1.trans sq1
          have L2' : LRes (upd (upd H11 n1 (.lst [kv])) q1 (.lst [.ref n1, kv])) (.ref q1) (some ([TT'], TT')) := ⟨q1, n1, [kv], kv, rfl, upd_same, sq1 _ _ upd_same, .cons (hkv11.mono (TK.of_same s1113)) .nil, hkv11.mono (TK.of_same s1113)⟩
          obtain ⟨D1, D2⟩ := lres_dp (K := K) (r11.same s1113) (fun t ht => by rw [List.mem_singleton.mp ht]; omega) (by show TT'.d.dep ≤ 60; omega)
          obtain ⟨E1, E2⟩ := lres_dp (K := K) L2' (fun t ht => by rw [List.mem_singleton.mp ht]; omega) (by show TT'.d.dep ≤ 60; omega)
          refine ⟨_, _, D1, E1, D2, E2, ?_⟩
          rw [eqv_lres, decide_eq_true rfl]
          refine ⟨_, rfl, iteF ?_⟩
          have e613 := e611.trans (extn_same s1113)
          have T13 := (T10.ext s11).ext s1113
          have dr13 : Drawn _ p Lp (60 + 600 * 4) zs := ⟨dr6.p.ext e613, nLpp, extn_lst e613 dr6.l, hz⟩
          have eL13 := extn_lst e613 eL6
          generalize upd (upd H11 n1 (.lst [kv])) q1 (.lst [.ref n1, kv]) = H13 at e613 T13 dr13 eL13 ⊢
          clear D1 D2 E1 E2 L2' r11 h10 hdv9 e69 h8 hdv8 s1113 e611
          refine ⟨_, rfl, _, rfl, p, Lp, _, 3, zs, rfl, dr13.p, by omega, nLpp, dr13.l, hz, by omega, fun vk tk H15 hk hsg hw kb15 hp15 => gN ?_⟩
          dsimp only
          have eL15 := kb15 _ _ eL13 nLp
          have T15 := tabs_kb T13 dr13.p kb15
          have tsm := ty_dep_small tk
          have wok := hk.wok
          obtain ⟨o1, o2⟩ := opD_size tk
          have etk : (D.t [.s "is", tk.d]).tl = some ([tk], tk) := tl_of (.is (tk.ty_d wok))
          have itk : (D.t [.s "is", tk.d]).tl.isSome = true := by rw [etk]; rfl
          have ztk : (D.t [.s "is", tk.d]).size ≤ 20 := by simp only [D.size, sizeAll]; omega
          have dtk : (D.t [.s "is", tk.d]).dep ≤ 5 := by simp only [D.dep, depAll]; omega
          refine ⟨_, rfl, sz2, fun i1 ni1 => ?_⟩
          have si := same_upd (o := .tup [.str "is", vk]) ni1
          have hi1 : DAt (upd H15 i1 (.tup [.str "is", vk])) (.ref i1) (.t [.s "is", tk.d]) := dAt_is upd_same (hk.mono (TK.of_same si)).d
          refine ⟨_, _, rfl, hi1, itk, by omega, by omega, T15.ext si, fun w5 H17 e17 T17 h17 => ?_⟩
          rw [lf_is (tk.ty_d wok)] at h17
          refine ⟨w5, opD tk, rfl, h17, by omega, by omega, by omega, fun w6 H18 s18 r18 => ?_⟩
          rw [opD_tl tk wok] at r18
          have e1518 := ((extn_same si).trans e17).trans (extn_same s18)
          have hk18 := hk.mono (extn_tk e1518)
          refine ⟨_, rfl, sz1, fun n3 nn3 => ⟨_, rfl, sz2, fun q3 nq3 => ?_⟩⟩
          have sn3 := same_upd (o := .lst [vk]) nn3
          have sq3 := same_upd (o := .lst [.ref n3, vk]) nq3
          have s1820 := sn3.trans sq3
          have hk20 := hk18.mono (TK.of_same s1820)
          have L3' : LRes (upd (upd H18 n3 (.lst [vk])) q3 (.lst [.ref n3, vk])) (.ref q3) (some ([tk], tk)) := ⟨q3, n3, [vk], vk, rfl, upd_same, sq3 _ _ upd_same, .cons hk20 .nil, hk20⟩
          obtain ⟨D1, D2⟩ := lres_dp (K := K) (r18.same s1820) (fun t ht => by rw [List.mem_singleton.mp ht]; omega) (by show tk.d.dep ≤ 60; omega)
          obtain ⟨E1, E2⟩ := lres_dp (K := K) L3' (fun t ht => by rw [List.mem_singleton.mp ht]; omega) (by show tk.d.dep ≤ 60; omega)
          refine ⟨_, _, D1, E1, D2, E2, ?_⟩
          rw [eqv_lres, decide_eq_true rfl]
          refine ⟨_, rfl, iteF ?_⟩
          have e1520 := e1518.trans (extn_same s1820)
          have T20 := (T17.ext s18).ext s1820
          have eL20 := extn_lst e1520 eL15
          generalize upd (upd H18 n3 (.lst [vk])) q3 (.lst [.ref n3, vk]) = H20 at hk20 T20 eL20 ⊢
          refine ⟨_, rfl, sz2, fun i2 ni2 => ?_⟩
          have si2 := same_upd (o := .tup [.str "is", vk]) ni2
          have hi2 : DAt (upd H20 i2 (.tup [.str "is", vk])) (.ref i2) (.t [.s "is", tk.d]) := dAt_is upd_same (hk20.mono (TK.of_same si2)).d
          refine ⟨_, _, rfl, hi2, itk, by omega, by omega, T20.ext si2, fun w7 H22 e22 T22 h22 => ?_⟩
          rw [ab_is (tk.ty_d wok)] at h22
          have e2022 := (extn_same si2).trans e22
          refine ⟨_, rfl, vk, tk, rfl, hk20.mono (extn_tk e2022), by omega, fun w8 H23 s23 h23 => ⟨sz2, fun i3 ni3 => ?_⟩⟩
          have si3 := same_upd (o := .tup [.str "is", w8]) ni3
          have td := turned_dep tk
          refine ⟨_, _, rfl, ?_, fun H25 s25 => ⟨true, rfl, iteF ?_⟩⟩
          · have hi3 : DAt (upd H23 i3 (.tup [.str "is", w8])) (.ref i3) (.t [.s "is", tk.turned.d]) := dAt_is upd_same (h23.mono (TK.of_same si3)).d
            exact (SameDt.d 40000 (by simp only [D.size, sizeAll]; omega) (Nat.le_refl _) (h22.mono (TK.of_same (s23.trans si3))) hi3).le (by simp only [D.dep, depAll]; omega)
          · exact ⟨_, _, _, _, _, _, _, _, rfl, extn_lst (e2022.trans (extn_same ((s23.trans si3).trans s25))) eL20, fun z => by omega⟩
    · rintro σ H2 ⟨v1, v2, v3, v4, v5, v6, v7, v8, rfl, _⟩
      exact k H2
end
end U6

namespace U6
open PySem PySem.Spec PyProof.Rows L2 NdefX LamX KT
open PySem.W (Frag)
open He (dicW keysIn dicW_ok)
section
variable {K : Frag} {h : Heap} {mg : Str → Option Value} {w : World}
theorem gb5_mk {a : Addr} {od : Option Addr} {sl : Array (Option Value)} {t1 t2 t3 t4 : Tok} {n : Nat} (X : K.In h) (G : h.Ns mainGlobals mg) (s : PySem.W.nsIn K mainGlobals "_PLACED" = some (some (.ref a)))
    (k : K.lookup a = some ⟨.type "tuple", od, .seq #[.str "over used" t1, .str "under used" t2, .str "then used" t3, .str "cut" t4] n, sl⟩) : Gb5 K w mg :=
  ⟨a, PySem.W.mg_of X G s, .inr ⟨_, _, _, k, rfl, rfl, by show 4 ≤ sizeLine; rw [sizeLine_eq]; omega, .cons ⟨_, rfl⟩ (.cons ⟨_, rfl⟩ (.cons ⟨_, rfl⟩ (.cons ⟨_, rfl⟩ .nil)))⟩⟩
def nmsT : List Str := ["is", "over made", "under made", "then made", "over used", "under used", "then used", "cut"]
theorem gt5_mk {dt f1 f2 f3 f4 f5 f6 f7 f8 : Addr} (X : K.In h) (G : h.Ns mainGlobals mg) (s : PySem.W.nsIn K mainGlobals "_TELLERS" = some (some (.ref dt))) (hk : dicW K dt = some (keysIn w.params nmsT))
    (q1 : PySem.W.nsIn K dt "is" = some (some (.ref f1))) (q2 : PySem.W.nsIn K dt "over made" = some (some (.ref f2))) (q3 : PySem.W.nsIn K dt "under made" = some (some (.ref f3))) (q4 : PySem.W.nsIn K dt "then made" = some (some (.ref f4)))
    (q5 : PySem.W.nsIn K dt "over used" = some (some (.ref f5))) (q6 : PySem.W.nsIn K dt "under used" = some (some (.ref f6))) (q7 : PySem.W.nsIn K dt "then used" = some (some (.ref f7))) (q8 : PySem.W.nsIn K dt "cut" = some (some (.ref f8))) : Gt5 K w mg f1 f2 f3 f4 f5 f6 f7 f8 := by
  obtain ⟨es, n, D⟩ := dicW_ok hk
  exact ⟨dt, PySem.W.mg_of X G s, ⟨es, n, _, D.at_, D.lit, q1, rfl⟩, ⟨es, n, _, D.at_, D.lit, q2, rfl⟩, ⟨es, n, _, D.at_, D.lit, q3, rfl⟩, ⟨es, n, _, D.at_, D.lit, q4, rfl⟩, ⟨es, n, _, D.at_, D.lit, q5, rfl⟩, ⟨es, n, _, D.at_, D.lit, q6, rfl⟩, ⟨es, n, _, D.at_, D.lit, q7, rfl⟩, ⟨es, n, _, D.at_, D.lit, q8, rfl⟩⟩
theorem isStr_lit (x : Str) (t : Tok) (z : Str) : (Value.str x t).isStr z = decide (x = z) := by
  show (x == z) = _
  by_cases c : x = z
  · subst c; simp
  · simp [c]
theorem gm5_mk {d : Addr} {h1 h2 h3 h4 h5 h6 h7 h8 : Int} {t1 t2 t3 t4 t5 t6 t7 t8 u1 u2 u3 u4 u5 u6 u7 u8 : Tok} {n : Nat} (X : K.In h) (G : h.Ns mainGlobals mg) (s : PySem.W.nsIn K mainGlobals "_MANY_PARTS" = some (some (.ref d))) (hk : dicW K d = some (keysIn w.params nmsT))
    (l : K.lookup d = some ⟨.type "dict", none, .dict #[⟨h1, .str "is" t1, .int 0 u1⟩, ⟨h2, .str "over made" t2, .int 1 u2⟩, ⟨h3, .str "under made" t3, .int 1 u3⟩, ⟨h4, .str "then made" t4, .int 2 u4⟩, ⟨h5, .str "over used" t5, .int 2 u5⟩, ⟨h6, .str "under used" t6, .int 2 u6⟩, ⟨h7, .str "then used" t7, .int 1 u7⟩, ⟨h8, .str "cut" t8, .int 2 u8⟩] n, #[]⟩) : Gm5 K w mg := by
  obtain ⟨es, n', D⟩ := dicW_ok hk
  refine ⟨d, es, n', PySem.W.mg_of X G s, D, fun z => ?_⟩
  unfold PySem.W.nsIn
  rw [l]
  simp only [List.find?_cons, List.find?_nil, isStr_lit]
  unfold MANY
  by_cases c1 : z = "is"
  · subst c1; exact ⟨_, rfl, rfl, fun u e => ⟨_, rfl, by cases e; exact ⟨_, rfl⟩⟩⟩
  by_cases c2 : z = "over made"
  · subst c2; exact ⟨_, rfl, rfl, fun u e => ⟨_, rfl, by cases e; exact ⟨_, rfl⟩⟩⟩
  by_cases c3 : z = "under made"
  · subst c3; exact ⟨_, rfl, rfl, fun u e => ⟨_, rfl, by cases e; exact ⟨_, rfl⟩⟩⟩
  by_cases c4 : z = "then made"
  · subst c4; exact ⟨_, rfl, rfl, fun u e => ⟨_, rfl, by cases e; exact ⟨_, rfl⟩⟩⟩
  by_cases c5 : z = "over used"
  · subst c5; exact ⟨_, rfl, rfl, fun u e => ⟨_, rfl, by cases e; exact ⟨_, rfl⟩⟩⟩
  by_cases c6 : z = "under used"
  · subst c6; exact ⟨_, rfl, rfl, fun u e => ⟨_, rfl, by cases e; exact ⟨_, rfl⟩⟩⟩
  by_cases c7 : z = "then used"
  · subst c7; exact ⟨_, rfl, rfl, fun u e => ⟨_, rfl, by cases e; exact ⟨_, rfl⟩⟩⟩
  by_cases c8 : z = "cut"
  · subst c8; exact ⟨_, rfl, rfl, fun u e => ⟨_, rfl, by cases e; exact ⟨_, rfl⟩⟩⟩
  have d1 : ∀ x : Str, ¬ z = x → decide (x = z) = false := fun x c => decide_eq_false fun e => c e.symm
  rw [d1 _ c1, d1 _ c2, d1 _ c3, d1 _ c4, d1 _ c5, d1 _ c6, d1 _ c7, d1 _ c8, if_neg c1, if_neg c2, if_neg c3, if_neg c4, if_neg c5, if_neg c6, if_neg c7, if_neg c8]
  exact ⟨_, rfl, rfl, fun u e => by cases e⟩
theorem gn6_mk {dt : Addr} {t1 t2 t3 t4 t5 t6 : Tok} (X : K.In h) (G : h.Ns mainGlobals mg) (s : PySem.W.nsIn K mainGlobals "_TURNED_NAMES" = some (some (.ref dt))) (hk : dicW K dt = some (keysIn w.params ["over made", "under made", "then made", "over used", "under used", "then used", "cut"]))
    (q1 : PySem.W.nsIn K dt "over made" = some (some (.str "under made" t1))) (q2 : PySem.W.nsIn K dt "under made" = some (some (.str "over made" t2))) (q3 : PySem.W.nsIn K dt "over used" = some (some (.str "under used" t3))) (q4 : PySem.W.nsIn K dt "under used" = some (some (.str "over used" t4))) (q5 : PySem.W.nsIn K dt "then used" = some (some (.str "then used" t5))) (q6 : PySem.W.nsIn K dt "cut" = some (some (.str "cut" t6))) : Gn6 K w mg := by
  obtain ⟨es, n, D⟩ := dicW_ok hk
  refine ⟨dt, PySem.W.mg_of X G s, fun nm h => ?_⟩
  rcases h with rfl | rfl | rfl | rfl | rfl | rfl
  · rw [show oth "over made" = "under made" by decide +kernel]; exact ⟨es, n, _, D.at_, D.lit, q1, ⟨_, rfl⟩⟩
  · rw [show oth "under made" = "over made" by decide +kernel]; exact ⟨es, n, _, D.at_, D.lit, q2, ⟨_, rfl⟩⟩
  · rw [show oth "over used" = "under used" by decide +kernel]; exact ⟨es, n, _, D.at_, D.lit, q3, ⟨_, rfl⟩⟩
  · rw [show oth "under used" = "over used" by decide +kernel]; exact ⟨es, n, _, D.at_, D.lit, q4, ⟨_, rfl⟩⟩
  · rw [show oth "then used" = "then used" by decide +kernel]; exact ⟨es, n, _, D.at_, D.lit, q5, ⟨_, rfl⟩⟩
  · rw [show oth "cut" = "cut" by decide +kernel]; exact ⟨es, n, _, D.at_, D.lit, q6, ⟨_, rfl⟩⟩
end
end U6

namespace U6
open PySem PySem.Spec PyProof.Rows L2 NdefX LamX KT
open PySem.W (Frag)
section
variable {K : Frag} {h : Heap} {mg : Str → Option Value}
theorem top_mk {x : Str} {st : Stmt} {ps : List Str} {f : Addr} {od an : Option Addr} {sl : Array (Option Value)} {oc kV dc pm cd ct : Value} (X : K.In h) (G : h.Ns mainGlobals mg) (a : PySem.W.nsIn K mainGlobals x = some (some (.ref f)))
    (l : K.lookup f = some ⟨oc, od, .func (PySem.W.fnOf x x (L2.defArgs st) (L2.defBody st) (L2.defScope st) .none kV dc pm an cd ct), sl⟩) (c : PySem.W.codeIn K cd x = true) (k : PySem.W.keepIn K (.ref f) = true)
    (b : ∀ (kV doc pm : Value) (an : Option Addr) (cdv ct : Value) (us : List Value), us.length = ps.length → bindArgs (PySem.W.fnOf x x (L2.defArgs st) (L2.defBody st) (L2.defScope st) .none kV doc pm an cdv ct) ⟨us, []⟩ = pure (ps.zip us)) :
    Top K mg x st ps f (PySem.W.fnOf x x (L2.defArgs st) (L2.defBody st) (L2.defScope st) .none kV dc pm an cd ct) := by
  have F := L2.fun_mk (x := x) (qual := x) (st := st) l c k
  exact ⟨F, PySem.W.mg_of X G a, F.binds b⟩
theorem topC_mk {x : Str} {st : Stmt} {ps : List Str} {f c : Addr} {od an : Option Addr} {sl : Array (Option Value)} {oc kV dc pm ct : Value} (X : K.In h) (G : h.Ns mainGlobals mg) (a : PySem.W.nsIn K mainGlobals x = some (some (.ref f)))
    (l : K.lookup f = some ⟨oc, od, .func (PySem.W.fnOf x x (L2.defArgs st) (L2.defBody st) (L2.defScope st) .none kV dc pm an (.ref c) ct), sl⟩) (hc : PySem.W.codeIn K (.ref c) x = true) (k : PySem.W.keepIn K (.ref f) = true)
    (b : ∀ (kV doc pm : Value) (an : Option Addr) (cdv ct : Value) (us : List Value), us.length = ps.length → bindArgs (PySem.W.fnOf x x (L2.defArgs st) (L2.defBody st) (L2.defScope st) .none kV doc pm an cdv ct) ⟨us, []⟩ = pure (ps.zip us)) :
    TopC K mg x st ps f (PySem.W.fnOf x x (L2.defArgs st) (L2.defBody st) (L2.defScope st) .none kV dc pm an (.ref c) ct) c := ⟨top_mk X G a l hc k b, oc, od, kV, dc, pm, an, ct, sl, rfl, l, hc⟩
theorem gbl_mk {t : Tok} {a : Addr} {od : Option Addr} {sl : Array (Option Value)} {t1 t2 t3 : Tok} {n : Nat} (X : K.In h) (G : h.Ns mainGlobals mg) (l : PySem.W.nsIn K mainGlobals "_LETTERS" = some (some (.str abc t))) (s : PySem.W.nsIn K mainGlobals "_SIGNS" = some (some (.ref a)))
    (k : K.lookup a = some ⟨.type "tuple", od, .seq #[.str "over" t1, .str "then" t2, .str "under" t3] n, sl⟩) : Gbl K mg :=
  ⟨⟨t, PySem.W.mg_of X G l⟩, a, PySem.W.mg_of X G s, .inr ⟨_, _, _, k, rfl, rfl, by show 3 ≤ sizeLine; rw [sizeLine_eq]; omega, .cons ⟨_, rfl⟩ (.cons ⟨_, rfl⟩ (.cons ⟨_, rfl⟩ .nil))⟩⟩
theorem tb1_mk {base : Heap} {c P : Addr} {q : Str} {T : List (Addr × Str)} (b : TabB base mg c P) (m : (T.any fun p => p.1 == P && p.2 == q) = true) (u : (T.all fun p => p.1 != P || p.2 == q) = true) : Tb1 base mg T c P q := by
  refine ⟨b, ?_, fun p hp e => ?_⟩
  · obtain ⟨p, h1, h2⟩ := List.any_eq_true.mp m
    simp only [Bool.and_eq_true, beq_iff_eq] at h2
    obtain ⟨a, d⟩ := p
    obtain ⟨rfl, rfl⟩ := h2
    exact h1
  · have := List.all_eq_true.mp u p hp
    simp only [Bool.or_eq_true, bne_iff_ne, ne_eq, beq_iff_eq] at this
    exact this.resolve_left fun n => n e
theorem end_mk {l : PySem.W.OpenLaw} {w : World} {fa : Addr} {fd : FuncData} {C : List (Addr × Addr)} {T : List (Addr × Str)} (_T : Top K mg "law" sLaw pLaw fa fd) (hT : ∀ p ∈ C, h.get? p.2 = some (PySem.W.tabObj #[])) (nA : ∀ p ∈ C, K.lookup p.2 = none)
    (CA : ∀ p ∈ C, PySem.W.CodeHd h p.1 p.2) (hTC : ∀ p ∈ T, ∃ q ∈ C, q.2 = p.1) (hb : ∀ (s : Shared) (u : Value), BindsTo s fd ⟨[u], []⟩ [("script", u)])
    (F : ∀ base : Heap, (∀ p ∈ C, TabB base mg p.1 p.2) → FnOk l.prog w K mg base L2.CX0 125 fa fd ["script"] (spLaw6 K T)) : LawAtS l w K L2.CX0 125 63 "script" mg fa h := by
  refine ⟨fd, C, spLaw6 K T, hT, nA, CA, hb, fun H a ns _ _ hH hS => ⟨a, ns, rfl, hS, fun p hp => ?_, fun _ => rfl⟩, fun base _ _ TB => F base fun p hp => TB p hp⟩
  obtain ⟨q, hq, e⟩ := hTC p hp
  rw [← e]
  exact TabS.nil (hH q hq)
end
end U6


open PySem PySem.W PyProof.Rows
set_option maxRecDepth 100000 in
set_option maxHeartbeats 0 in
theorem PySem.Challenge.cw_phrasejoins_k06_whole_derivations_change_holds : PySem.Challenge.rw_phrasejoins_k06_whole_derivations_change.Holds := by
  w_on; o_law; k_head; (case hw => w_witness2)
  k_fill
  refine LamX.walk_ofTs (l := PySem.Challenge.rw_phrasejoins_k06_whole_derivations_change) (n := 63) (k := 125) (x := "script") (CX := fun _ => L2.CX0) rfl (by decide) rfl ⟨rfl, by decide, by decide⟩ (fun w h Y => PySem.W.km_in_of Y) ?F (fun _ _ _ _ _ h => h)
  case F =>
    intro w mg fa h Y KX G hmg
    have hT8 := PySem.W.km_tabs_of Y

    have TNodesIn := U6.top_mk (x := "nodes_in") (st := U6.sNodesIn) (ps := U6.pNodesIn) KX G (by k_is) (by k_is) (by k_is) (by k_is) (fun _ _ _ _ _ _ us hl => match us, hl with | [_, _], _ => rfl)
    have TFromInside := U6.topC_mk (x := "from_inside") (st := U6.sFromInside) (ps := U6.pFromInside) KX G (by k_is) (by k_is) (by k_is) (by k_is) (fun _ _ _ _ _ _ us hl => match us, hl with | [_, _, _], _ => rfl)
    have TIsWord := U6.top_mk (x := "is_word") (st := U6.sIsWord) (ps := U6.pIsWord) KX G (by k_is) (by k_is) (by k_is) (by k_is) (fun _ _ _ _ _ _ us hl => match us, hl with | [_], _ => rfl)
    have TIsCount := U6.top_mk (x := "is_count") (st := U6.sIsCount) (ps := U6.pIsCount) KX G (by k_is) (by k_is) (by k_is) (by k_is) (fun _ _ _ _ _ _ us hl => match us, hl with | [_], _ => rfl)
    have TIsSigned := U6.top_mk (x := "_is_signed") (st := U6.sIsSigned) (ps := U6.pIsSigned) KX G (by k_is) (by k_is) (by k_is) (by k_is) (fun _ _ _ _ _ _ us hl => match us, hl with | [_], _ => rfl)
    have TIsKind := U6.top_mk (x := "is_kind") (st := U6.sIsKind) (ps := U6.pIsKind) KX G (by k_is) (by k_is) (by k_is) (by k_is) (fun _ _ _ _ _ _ us hl => match us, hl with | [_], _ => rfl)
    have TCheckKind := U6.top_mk (x := "check_kind") (st := U6.sCheckKind) (ps := U6.pCheckKind) KX G (by k_is) (by k_is) (by k_is) (by k_is) (fun _ _ _ _ _ _ us hl => match us, hl with | [_], _ => rfl)
    have TPartsOf := U6.top_mk (x := "_parts_of") (st := U6.sPartsOf) (ps := U6.pPartsOf) KX G (by k_is) (by k_is) (by k_is) (by k_is) (fun _ _ _ _ _ _ us hl => match us, hl with | [_], _ => rfl)
    have TKindsIn := U6.top_mk (x := "kinds_in") (st := U6.sKindsIn) (ps := U6.pKindsIn) KX G (by k_is) (by k_is) (by k_is) (by k_is) (fun _ _ _ _ _ _ us hl => match us, hl with | [_], _ => rfl)
    have TFolded := U6.topC_mk (x := "folded") (st := U6.sFolded) (ps := U6.pFolded) KX G (by k_is) (by k_is) (by k_is) (by k_is) (fun _ _ _ _ _ _ us hl => match us, hl with | [_, _, _], _ => rfl)
    have TPlainsIn := U6.top_mk (x := "plains_in") (st := U6.sPlainsIn) (ps := U6.pPlainsIn) KX G (by k_is) (by k_is) (by k_is) (by k_is) (fun _ _ _ _ _ _ us hl => match us, hl with | [_], _ => rfl)
    have TTurnedSign := U6.top_mk (x := "_turned_sign") (st := U6.sTurnedSign) (ps := U6.pTurnedSign) KX G (by k_is) (by k_is) (by k_is) (by k_is) (fun _ _ _ _ _ _ us hl => match us, hl with | [_, _, _], _ => rfl)
    have TTurned := U6.topC_mk (x := "turned") (st := U6.sTurned) (ps := U6.pTurned) KX G (by k_is) (by k_is) (by k_is) (by k_is) (fun _ _ _ _ _ _ us hl => match us, hl with | [_], _ => rfl)
    have TCheckMap := U6.top_mk (x := "check_map") (st := U6.sCheckMap) (ps := U6.pCheckMap) KX G (by k_is) (by k_is) (by k_is) (by k_is) (fun _ _ _ _ _ _ us hl => match us, hl with | [_, _], _ => rfl)
    have TPutIn := U6.topC_mk (x := "put_in") (st := U6.sPutIn) (ps := U6.pPutIn) KX G (by k_is) (by k_is) (by k_is) (by k_is) (fun _ _ _ _ _ _ us hl => match us, hl with | [_, _], _ => rfl)
    have TPartsBegin := U6.top_mk (x := "_parts_begin") (st := U6.sPartsBegin) (ps := U6.pPartsBegin) KX G (by k_is) (by k_is) (by k_is) (by k_is) (fun _ _ _ _ _ _ us hl => match us, hl with | [_], _ => rfl)
    have TPartsOfKnot := U6.top_mk (x := "parts_of_knot") (st := U6.sPartsOfKnot) (ps := U6.pPartsOfKnot) KX G (by k_is) (by k_is) (by k_is) (by k_is) (fun _ _ _ _ _ _ us hl => match us, hl with | [_], _ => rfl)
    have TWithParts := U6.top_mk (x := "with_parts") (st := U6.sWithParts) (ps := U6.pWithParts) KX G (by k_is) (by k_is) (by k_is) (by k_is) (fun _ _ _ _ _ _ us hl => match us, hl with | [_, _], _ => rfl)
    have THasForm := U6.top_mk (x := "_has_form") (st := U6.sHasForm) (ps := U6.pHasForm) KX G (by k_is) (by k_is) (by k_is) (by k_is) (fun _ _ _ _ _ _ us hl => match us, hl with | [_], _ => rfl)
    have TAreAllKnots := U6.top_mk (x := "_are_all_knots") (st := U6.sAreAllKnots) (ps := U6.pAreAllKnots) KX G (by k_is) (by k_is) (by k_is) (by k_is) (fun _ _ _ _ _ _ us hl => match us, hl with | [_], _ => rfl)
    have TKnotsIn := U6.top_mk (x := "knots_in") (st := U6.sKnotsIn) (ps := U6.pKnotsIn) KX G (by k_is) (by k_is) (by k_is) (by k_is) (fun _ _ _ _ _ _ us hl => match us, hl with | [_], _ => rfl)
    have TFoldedKnots := U6.topC_mk (x := "folded_knots") (st := U6.sFoldedKnots) (ps := U6.pFoldedKnots) KX G (by k_is) (by k_is) (by k_is) (by k_is) (fun _ _ _ _ _ _ us hl => match us, hl with | [_, _], _ => rfl)
    have TTellIs := U6.top_mk (x := "_tell_is") (st := U6.sTellIs) (ps := U6.pTellIs) KX G (by k_is) (by k_is) (by k_is) (by k_is) (fun _ _ _ _ _ _ us hl => match us, hl with | [_, _], _ => rfl)
    have TTellOverMade := U6.top_mk (x := "_tell_over_made") (st := U6.sTellOverMade) (ps := U6.pTellOverMade) KX G (by k_is) (by k_is) (by k_is) (by k_is) (fun _ _ _ _ _ _ us hl => match us, hl with | [_, _], _ => rfl)
    have TTellUnderMade := U6.top_mk (x := "_tell_under_made") (st := U6.sTellUnderMade) (ps := U6.pTellUnderMade) KX G (by k_is) (by k_is) (by k_is) (by k_is) (fun _ _ _ _ _ _ us hl => match us, hl with | [_, _], _ => rfl)
    have TTellThenMade := U6.top_mk (x := "_tell_then_made") (st := U6.sTellThenMade) (ps := U6.pTellThenMade) KX G (by k_is) (by k_is) (by k_is) (by k_is) (fun _ _ _ _ _ _ us hl => match us, hl with | [_, _], _ => rfl)
    have TTellOverUsed := U6.top_mk (x := "_tell_over_used") (st := U6.sTellOverUsed) (ps := U6.pTellOverUsed) KX G (by k_is) (by k_is) (by k_is) (by k_is) (fun _ _ _ _ _ _ us hl => match us, hl with | [_, _], _ => rfl)
    have TTellUnderUsed := U6.top_mk (x := "_tell_under_used") (st := U6.sTellUnderUsed) (ps := U6.pTellUnderUsed) KX G (by k_is) (by k_is) (by k_is) (by k_is) (fun _ _ _ _ _ _ us hl => match us, hl with | [_, _], _ => rfl)
    have TTellThenUsed := U6.top_mk (x := "_tell_then_used") (st := U6.sTellThenUsed) (ps := U6.pTellThenUsed) KX G (by k_is) (by k_is) (by k_is) (by k_is) (fun _ _ _ _ _ _ us hl => match us, hl with | [_, _], _ => rfl)
    have TTellCut := U6.top_mk (x := "_tell_cut") (st := U6.sTellCut) (ps := U6.pTellCut) KX G (by k_is) (by k_is) (by k_is) (by k_is) (fun _ _ _ _ _ _ us hl => match us, hl with | [_, _], _ => rfl)
    have TTell := U6.top_mk (x := "_tell") (st := U6.sTell) (ps := U6.pTell) KX G (by k_is) (by k_is) (by k_is) (by k_is) (fun _ _ _ _ _ _ us hl => match us, hl with | [_, _], _ => rfl)
    have TTellingOf := U6.top_mk (x := "telling_of") (st := U6.sTellingOf) (ps := U6.pTellingOf) KX G (by k_is) (by k_is) (by k_is) (by k_is) (fun _ _ _ _ _ _ us hl => match us, hl with | [_], _ => rfl)
    have TIsDerivation := U6.top_mk (x := "is_derivation") (st := U6.sIsDerivation) (ps := U6.pIsDerivation) KX G (by k_is) (by k_is) (by k_is) (by k_is) (fun _ _ _ _ _ _ us hl => match us, hl with | [_], _ => rfl)
    have TCheckDerivation := U6.top_mk (x := "check_derivation") (st := U6.sCheckDerivation) (ps := U6.pCheckDerivation) KX G (by k_is) (by k_is) (by k_is) (by k_is) (fun _ _ _ _ _ _ us hl => match us, hl with | [_], _ => rfl)
    have TToldBy := U6.top_mk (x := "told_by") (st := U6.sToldBy) (ps := U6.pToldBy) KX G (by k_is) (by k_is) (by k_is) (by k_is) (fun _ _ _ _ _ _ us hl => match us, hl with | [_], _ => rfl)
    have TCutsOf := U6.top_mk (x := "cuts_of") (st := U6.sCutsOf) (ps := U6.pCutsOf) KX G (by k_is) (by k_is) (by k_is) (by k_is) (fun _ _ _ _ _ _ us hl => match us, hl with | [_], _ => rfl)
    have TTurnedPlaced := U6.top_mk (x := "_turned_placed") (st := U6.sTurnedPlaced) (ps := U6.pTurnedPlaced) KX G (by k_is) (by k_is) (by k_is) (by k_is) (fun _ _ _ _ _ _ us hl => match us, hl with | [_, _], _ => rfl)
    have TTurnedKnot := U6.top_mk (x := "_turned_knot") (st := U6.sTurnedKnot) (ps := U6.pTurnedKnot) KX G (by k_is) (by k_is) (by k_is) (by k_is) (fun _ _ _ _ _ _ us hl => match us, hl with | [_, _], _ => rfl)
    have TTurnedDerivation := U6.top_mk (x := "turned_derivation") (st := U6.sTurnedDerivation) (ps := U6.pTurnedDerivation) KX G (by k_is) (by k_is) (by k_is) (by k_is) (fun _ _ _ _ _ _ us hl => match us, hl with | [_], _ => rfl)
    have TWithPut := U6.topC_mk (x := "with_put") (st := U6.sWithPut) (ps := U6.pWithPut) KX G (by k_is) (by k_is) (by k_is) (by k_is) (fun _ _ _ _ _ _ us hl => match us, hl with | [_, _], _ => rfl)
    have TPlainStep := U6.top_mk (x := "_plain_step") (st := U6.sPlainStep) (ps := U6.pPlainStep) KX G (by k_is) (by k_is) (by k_is) (by k_is) (fun _ _ _ _ _ _ us hl => match us, hl with | [_, _, _], _ => rfl)
    have TPlainKnot := U6.topC_mk (x := "_plain_knot") (st := U6.sPlainKnot) (ps := U6.pPlainKnot) KX G (by k_is) (by k_is) (by k_is) (by k_is) (fun _ _ _ _ _ _ us hl => match us, hl with | [_, _], _ => rfl)
    have TPlainOut := U6.top_mk (x := "plain_out") (st := U6.sPlainOut) (ps := U6.pPlainOut) KX G (by k_is) (by k_is) (by k_is) (by k_is) (fun _ _ _ _ _ _ us hl => match us, hl with | [_], _ => rfl)
    have TCutIn := U6.top_mk (x := "cut_in") (st := U6.sCutIn) (ps := U6.pCutIn) KX G (by k_is) (by k_is) (by k_is) (by k_is) (fun _ _ _ _ _ _ us hl => match us, hl with | [_, _, _], _ => rfl)
    have TLPurse := U6.top_mk (x := "_law_purse") (st := U6.sLPurse) (ps := U6.pLPurse) KX G (by k_is) (by k_is) (by k_is) (by k_is) (fun _ _ _ _ _ _ us hl => match us, hl with | [_, _], _ => rfl)
    have TLMixed := U6.top_mk (x := "_law_mixed") (st := U6.sLMixed) (ps := U6.pLMixed) KX G (by k_is) (by k_is) (by k_is) (by k_is) (fun _ _ _ _ _ _ us hl => match us, hl with | [_, _, _], _ => rfl)
    have TLDraw := U6.top_mk (x := "_law_draw") (st := U6.sLDraw) (ps := U6.pLDraw) KX G (by k_is) (by k_is) (by k_is) (by k_is) (fun _ _ _ _ _ _ us hl => match us, hl with | [_, _], _ => rfl)
    have TLPurses := U6.top_mk (x := "_law_purses") (st := U6.sLPurses) (ps := U6.pLPurses) KX G (by k_is) (by k_is) (by k_is) (by k_is) (fun _ _ _ _ _ _ us hl => match us, hl with | [_, _], _ => rfl)
    have TLOneOf := U6.top_mk (x := "_law_one_of") (st := U6.sLOneOf) (ps := U6.pLOneOf) KX G (by k_is) (by k_is) (by k_is) (by k_is) (fun _ _ _ _ _ _ us hl => match us, hl with | [_, _], _ => rfl)
    have TLShuffled := U6.top_mk (x := "_law_shuffled") (st := U6.sLShuffled) (ps := U6.pLShuffled) KX G (by k_is) (by k_is) (by k_is) (by k_is) (fun _ _ _ _ _ _ us hl => match us, hl with | [_, _], _ => rfl)
    have TLSame := U6.top_mk (x := "_law_same") (st := U6.sLSame) (ps := U6.pLSame) KX G (by k_is) (by k_is) (by k_is) (by k_is) (fun _ _ _ _ _ _ us hl => match us, hl with | [_], _ => rfl)
    have TLExact := U6.top_mk (x := "_law_exact") (st := U6.sLExact) (ps := U6.pLExact) KX G (by k_is) (by k_is) (by k_is) (by k_is) (fun _ _ _ _ _ _ us hl => match us, hl with | [_, _], _ => rfl)
    have TLWord := U6.top_mk (x := "_law_word") (st := U6.sLWord) (ps := U6.pLWord) KX G (by k_is) (by k_is) (by k_is) (by k_is) (fun _ _ _ _ _ _ us hl => match us, hl with | [_], _ => rfl)
    have TLWords := U6.top_mk (x := "_law_words") (st := U6.sLWords) (ps := U6.pLWords) KX G (by k_is) (by k_is) (by k_is) (by k_is) (fun _ _ _ _ _ _ us hl => match us, hl with | [_, _], _ => rfl)
    have TLPlains := U6.top_mk (x := "_law_plains") (st := U6.sLPlains) (ps := U6.pLPlains) KX G (by k_is) (by k_is) (by k_is) (by k_is) (fun _ _ _ _ _ _ us hl => match us, hl with | [_, _], _ => rfl)
    have TLKind := U6.top_mk (x := "_law_kind") (st := U6.sLKind) (ps := U6.pLKind) KX G (by k_is) (by k_is) (by k_is) (by k_is) (fun _ _ _ _ _ _ us hl => match us, hl with | [_, _, _], _ => rfl)
    have TLSigns := U6.top_mk (x := "_law_signs") (st := U6.sLSigns) (ps := U6.pLSigns) KX G (by k_is) (by k_is) (by k_is) (by k_is) (fun _ _ _ _ _ _ us hl => match us, hl with | [_], _ => rfl)
    have TLPlainList := U6.top_mk (x := "_law_plain_list") (st := U6.sLPlainList) (ps := U6.pLPlainList) KX G (by k_is) (by k_is) (by k_is) (by k_is) (fun _ _ _ _ _ _ us hl => match us, hl with | [_], _ => rfl)
    have TLPlainWords := U6.top_mk (x := "_law_plain_words") (st := U6.sLPlainWords) (ps := U6.pLPlainWords) KX G (by k_is) (by k_is) (by k_is) (by k_is) (fun _ _ _ _ _ _ us hl => match us, hl with | [_], _ => rfl)
    have TLTurned := U6.top_mk (x := "_law_turned") (st := U6.sLTurned) (ps := U6.pLTurned) KX G (by k_is) (by k_is) (by k_is) (by k_is) (fun _ _ _ _ _ _ us hl => match us, hl with | [_], _ => rfl)
    have TLIsPlace := U6.top_mk (x := "_law_is_place") (st := U6.sLIsPlace) (ps := U6.pLIsPlace) KX G (by k_is) (by k_is) (by k_is) (by k_is) (fun _ _ _ _ _ _ us hl => match us, hl with | [_, _], _ => rfl)
    have TLIsKind := U6.top_mk (x := "_law_is_kind") (st := U6.sLIsKind) (ps := U6.pLIsKind) KX G (by k_is) (by k_is) (by k_is) (by k_is) (fun _ _ _ _ _ _ us hl => match us, hl with | [_], _ => rfl)
    have TLToldUsed := U6.top_mk (x := "_law_told_used") (st := U6.sLToldUsed) (ps := U6.pLToldUsed) KX G (by k_is) (by k_is) (by k_is) (by k_is) (fun _ _ _ _ _ _ us hl => match us, hl with | [_], _ => rfl)
    have TLToldMade := U6.top_mk (x := "_law_told_made") (st := U6.sLToldMade) (ps := U6.pLToldMade) KX G (by k_is) (by k_is) (by k_is) (by k_is) (fun _ _ _ _ _ _ us hl => match us, hl with | [_], _ => rfl)
    have TLTells := U6.top_mk (x := "_law_tells") (st := U6.sLTells) (ps := U6.pLTells) KX G (by k_is) (by k_is) (by k_is) (by k_is) (fun _ _ _ _ _ _ us hl => match us, hl with | [_], _ => rfl)
    have TLInner := U6.top_mk (x := "_law_inner") (st := U6.sLInner) (ps := U6.pLInner) KX G (by k_is) (by k_is) (by k_is) (by k_is) (fun _ _ _ _ _ _ us hl => match us, hl with | [_], _ => rfl)
    have TLManyCuts := U6.top_mk (x := "_law_many_cuts") (st := U6.sLManyCuts) (ps := U6.pLManyCuts) KX G (by k_is) (by k_is) (by k_is) (by k_is) (fun _ _ _ _ _ _ us hl => match us, hl with | [_], _ => rfl)
    have TLOpened := U6.top_mk (x := "_law_opened") (st := U6.sLOpened) (ps := U6.pLOpened) KX G (by k_is) (by k_is) (by k_is) (by k_is) (fun _ _ _ _ _ _ us hl => match us, hl with | [_], _ => rfl)
    have TLMinor := U6.top_mk (x := "_law_minor") (st := U6.sLMinor) (ps := U6.pLMinor) KX G (by k_is) (by k_is) (by k_is) (by k_is) (fun _ _ _ _ _ _ us hl => match us, hl with | [_, _, _], _ => rfl)
    have TLOneRule := U6.top_mk (x := "_law_one_rule") (st := U6.sLOneRule) (ps := U6.pLOneRule) KX G (by k_is) (by k_is) (by k_is) (by k_is) (fun _ _ _ _ _ _ us hl => match us, hl with | [_, _, _], _ => rfl)
    have TLDerivation := U6.top_mk (x := "_law_derivation") (st := U6.sLDerivation) (ps := U6.pLDerivation) KX G (by k_is) (by k_is) (by k_is) (by k_is) (fun _ _ _ _ _ _ us hl => match us, hl with | [_, _, _], _ => rfl)
    have TLEnds := U6.top_mk (x := "_law_ends") (st := U6.sLEnds) (ps := U6.pLEnds) KX G (by k_is) (by k_is) (by k_is) (by k_is) (fun _ _ _ _ _ _ us hl => match us, hl with | [_], _ => rfl)
    have TLPut := U6.top_mk (x := "_law_put") (st := U6.sLPut) (ps := U6.pLPut) KX G (by k_is) (by k_is) (by k_is) (by k_is) (fun _ _ _ _ _ _ us hl => match us, hl with | [_, _], _ => rfl)
    have TLPutAll := U6.top_mk (x := "_law_put_all") (st := U6.sLPutAll) (ps := U6.pLPutAll) KX G (by k_is) (by k_is) (by k_is) (by k_is) (fun _ _ _ _ _ _ us hl => match us, hl with | [_, _], _ => rfl)
    have TLAbout := U6.top_mk (x := "_law_about") (st := U6.sLAbout) (ps := U6.pLAbout) KX G (by k_is) (by k_is) (by k_is) (by k_is) (fun _ _ _ _ _ _ us hl => match us, hl with | [_], _ => rfl)
    have TLChangesRight := U6.top_mk (x := "_law_changes_right") (st := U6.sLChangesRight) (ps := U6.pLChangesRight) KX G (by k_is) (by k_is) (by k_is) (by k_is) (fun _ _ _ _ _ _ us hl => match us, hl with | [_, _, _], _ => rfl)
    have TLCutsRight := U6.top_mk (x := "_law_cuts_right") (st := U6.sLCutsRight) (ps := U6.pLCutsRight) KX G (by k_is) (by k_is) (by k_is) (by k_is) (fun _ _ _ _ _ _ us hl => match us, hl with | [_, _, _], _ => rfl)
    have TLaw := U6.top_mk (x := "law") (st := U6.sLaw) (ps := U6.pLaw) KX G (by k_is) (by k_is) (by k_is) (by k_is) (fun _ _ _ _ _ _ us hl => match us, hl with | [_], _ => rfl)
    have E := hmg.symm.trans TLaw.g
    cases E
    have B : U6.Blt mg := ⟨PySem.W.mg_none_of KX G (by k_is), PySem.W.mg_none_of KX G (by k_is), PySem.W.mg_none_of KX G (by k_is), PySem.W.mg_none_of KX G (by k_is), PySem.W.mg_none_of KX G (by k_is), PySem.W.mg_none_of KX G (by k_is), PySem.W.mg_none_of KX G (by k_is), PySem.W.mg_none_of KX G (by k_is), PySem.W.mg_none_of KX G (by k_is), PySem.W.mg_none_of KX G (by k_is), PySem.W.mg_none_of KX G (by k_is), PySem.W.mg_none_of KX G (by k_is), PySem.W.mg_none_of KX G (by k_is), PySem.W.mg_none_of KX G (by k_is), PySem.W.mg_none_of KX G (by k_is), PySem.W.mg_none_of KX G (by k_is), PySem.W.mg_none_of KX G (by k_is)⟩
    have GG : U6.Gbl _ mg := U6.gbl_mk KX G (by k_is) (by k_is) (by k_is)
    have GB : U6.Gb5 _ w mg := U6.gb5_mk KX G (by k_is) (by k_is)
    have GM : U6.Gm5 _ w mg := U6.gm5_mk KX G (by k_is) (by kernel_rfl) (by k_is)
    have GTl : U6.Gt5 _ w mg _ _ _ _ _ _ _ _ := U6.gt5_mk KX G (by k_is) (by kernel_rfl) (by k_is) (by k_is) (by k_is) (by k_is) (by k_is) (by k_is) (by k_is) (by k_is)
    have GN : U6.Gn6 _ w mg := U6.gn6_mk KX G (by k_is) (by kernel_rfl) (by k_is) (by k_is) (by k_is) (by k_is) (by k_is) (by k_is)
    have hEn : mg "enumerate" = none := PySem.W.mg_none_of KX G (by k_is)
    refine U6.end_mk (C := [(195, 191), (214, 210), (226, 222), (399, 397), (413, 409)]) (T := [(191, "folded.<locals>.at_part"), (210, "turned.<locals>.<lambda>"), (222, "put_in.<locals>.<lambda>"), (397, "with_put.<locals>.put_at"), (409, "_plain_knot.<locals>.<lambda>")]) TLaw
      (fun p hp => hT8 p.2 (by simp only [List.mem_cons, List.not_mem_nil, or_false] at hp ⊢; rcases hp with rfl | rfl | rfl | rfl | rfl <;> simp))
      (fun p hp => by simp only [List.mem_cons, List.not_mem_nil, or_false] at hp; rcases hp with rfl | rfl | rfl | rfl | rfl <;> kernel_rfl)
      (fun p hp => by simp only [List.mem_cons, List.not_mem_nil, or_false] at hp; rcases hp with rfl | rfl | rfl | rfl | rfl <;> exact PySem.W.codeHd_of_K KX (by kernel_rfl))
      (fun p hp => by
        simp only [List.mem_cons, List.not_mem_nil, or_false] at hp
        rcases hp with rfl | rfl | rfl | rfl | rfl
        · exact ⟨(195, 191), by simp, rfl⟩
        · exact ⟨(214, 210), by simp, rfl⟩
        · exact ⟨(226, 222), by simp, rfl⟩
        · exact ⟨(399, 397), by simp, rfl⟩
        · exact ⟨(413, 409), by simp, rfl⟩) (fun s u => .of_eq rfl) (fun base TB => ?_)
    have tF : U6.Tb1 base mg _ 195 191 "folded.<locals>.at_part" := U6.tb1_mk (T := [(191, "folded.<locals>.at_part"), (210, "turned.<locals>.<lambda>"), (222, "put_in.<locals>.<lambda>"), (397, "with_put.<locals>.put_at"), (409, "_plain_knot.<locals>.<lambda>")]) (TB (195, 191) (by simp)) (by decide +kernel) (by decide +kernel)
    have tT : U6.Tb1 base mg _ 214 210 "turned.<locals>.<lambda>" := U6.tb1_mk (T := [(191, "folded.<locals>.at_part"), (210, "turned.<locals>.<lambda>"), (222, "put_in.<locals>.<lambda>"), (397, "with_put.<locals>.put_at"), (409, "_plain_knot.<locals>.<lambda>")]) (TB (214, 210) (by simp)) (by decide +kernel) (by decide +kernel)
    have tP : U6.Tb1 base mg _ 226 222 "put_in.<locals>.<lambda>" := U6.tb1_mk (T := [(191, "folded.<locals>.at_part"), (210, "turned.<locals>.<lambda>"), (222, "put_in.<locals>.<lambda>"), (397, "with_put.<locals>.put_at"), (409, "_plain_knot.<locals>.<lambda>")]) (TB (226, 222) (by simp)) (by decide +kernel) (by decide +kernel)
    have tW : U6.Tb1 base mg _ 399 397 "with_put.<locals>.put_at" := U6.tb1_mk (T := [(191, "folded.<locals>.at_part"), (210, "turned.<locals>.<lambda>"), (222, "put_in.<locals>.<lambda>"), (397, "with_put.<locals>.put_at"), (409, "_plain_knot.<locals>.<lambda>")]) (TB (399, 397) (by simp)) (by decide +kernel) (by decide +kernel)
    have tK : U6.Tb1 base mg _ 413 409 "_plain_knot.<locals>.<lambda>" := U6.tb1_mk (T := [(191, "folded.<locals>.at_part"), (210, "turned.<locals>.<lambda>"), (222, "put_in.<locals>.<lambda>"), (397, "with_put.<locals>.put_at"), (409, "_plain_knot.<locals>.<lambda>")]) (TB (413, 409) (by simp)) (by decide +kernel) (by decide +kernel)
    have gIsKind := U6.ok_isKindD (P := PySem.Challenge.rw_phrasejoins_k06_whole_derivations_change.prog) (w := w) (base := base) TIsKind TIsSigned TIsWord B GG
    have gIsKindT := U6.ok_isKind (P := PySem.Challenge.rw_phrasejoins_k06_whole_derivations_change.prog) (w := w) (base := base) TIsKind TIsSigned TIsWord B GG
    have gParts := U6.ok_partsK (P := PySem.Challenge.rw_phrasejoins_k06_whole_derivations_change.prog) (w := w) (base := base) TPartsOfKnot TPartsBegin GB
    have gForm := U6.ok_hasForm (P := PySem.Challenge.rw_phrasejoins_k06_whole_derivations_change.prog) (w := w) (base := base) THasForm TIsKind TPartsBegin TIsCount gIsKind B GB GM
    have gAll := U6.ok_allKnots (P := PySem.Challenge.rw_phrasejoins_k06_whole_derivations_change.prog) (w := w) (base := base) TAreAllKnots THasForm TPartsOfKnot gForm gParts
    have gNodes := U6.ok_nodesK (P := PySem.Challenge.rw_phrasejoins_k06_whole_derivations_change.prog) (w := w) (base := base) TNodesIn TPartsOfKnot gParts
    have gTell := U6.ok_tell (P := PySem.Challenge.rw_phrasejoins_k06_whole_derivations_change.prog) (w := w) (base := base) TTell GTl TTellIs TTellOverMade TTellUnderMade TTellThenMade TTellOverUsed TTellUnderUsed TTellThenUsed TTellCut B
    have gIn := U6.ok_fromInsideK (P := PySem.Challenge.rw_phrasejoins_k06_whole_derivations_change.prog) (w := w) (base := base) TFromInside.T TNodesIn TPartsOfKnot TTell gNodes gParts gTell B
    have gFold := U6.ok_fold (P := PySem.Challenge.rw_phrasejoins_k06_whole_derivations_change.prog) (w := w) (base := base) TFoldedKnots.T TFromInside.T TPartsOfKnot gIn
    have gTelling := U6.ok_telling (P := PySem.Challenge.rw_phrasejoins_k06_whole_derivations_change.prog) (w := w) (base := base) TTellingOf TFoldedKnots.T TAreAllKnots TTell gFold gAll
    have gIsDer := U6.ok_isDer (P := PySem.Challenge.rw_phrasejoins_k06_whole_derivations_change.prog) (w := w) (base := base) TIsDerivation TTellingOf gTelling
    have gToldBy := U6.ok_toldBy (P := PySem.Challenge.rw_phrasejoins_k06_whole_derivations_change.prog) (w := w) (base := base) TToldBy TTellingOf gTelling
    have gCheck := U6.ok_checkDer (P := PySem.Challenge.rw_phrasejoins_k06_whole_derivations_change.prog) (w := w) (base := base) TCheckDerivation TIsDerivation gIsDer
    have gKnotsIn := U6.ok_knotsIn (P := PySem.Challenge.rw_phrasejoins_k06_whole_derivations_change.prog) (w := w) (base := base) TKnotsIn TNodesIn TPartsOfKnot gNodes
    have gCutsOf := U6.ok_cutsOf (P := PySem.Challenge.rw_phrasejoins_k06_whole_derivations_change.prog) (w := w) (base := base) TCutsOf TCheckDerivation TKnotsIn gCheck gKnotsIn B
    have gCK := U6.ok_checkKindT (P := PySem.Challenge.rw_phrasejoins_k06_whole_derivations_change.prog) (w := w) (base := base) TCheckKind TIsKind gIsKind
    have gCnt := U6.ok_isCountD (P := PySem.Challenge.rw_phrasejoins_k06_whole_derivations_change.prog) (w := w) (base := base) TIsCount B
    have gCut := U6.ok_cutIn (P := PySem.Challenge.rw_phrasejoins_k06_whole_derivations_change.prog) (w := w) (base := base) TCutIn TToldBy TIsCount gToldBy gCnt B
    have gKindsIn := U6.ok_kindsIn (P := PySem.Challenge.rw_phrasejoins_k06_whole_derivations_change.prog) (w := w) (base := base) TKindsIn TNodesIn TPartsOf B
    have gPlainsIn := U6.ok_plainsIn (P := PySem.Challenge.rw_phrasejoins_k06_whole_derivations_change.prog) (w := w) (base := base) TPlainsIn TKindsIn gKindsIn B
    have gMap := U6.ok_checkMap (P := PySem.Challenge.rw_phrasejoins_k06_whole_derivations_change.prog) (w := w) (base := base) TCheckMap TIsKind gIsKindT B
    have UF := U6.TFs.mk TFolded TFromInside TNodesIn TPartsOf tF
    have UK := U6.TKs.mk TFoldedKnots TFromInside TNodesIn TPartsOfKnot TPartsBegin
    have gTurned := U6.ok_turned (P := PySem.Challenge.rw_phrasejoins_k06_whole_derivations_change.prog) (w := w) (base := base) TTurned tT UF B TCheckKind gCK TTurnedSign
    have gPutIn := U6.ok_putIn (P := PySem.Challenge.rw_phrasejoins_k06_whole_derivations_change.prog) (w := w) (base := base) TPutIn tP UF B
    have gTP := U6.ok_turnedPlaced (P := PySem.Challenge.rw_phrasejoins_k06_whole_derivations_change.prog) (w := w) (base := base) TTurnedPlaced GN
    have gWPa := U6.ok_withParts (P := PySem.Challenge.rw_phrasejoins_k06_whole_derivations_change.prog) (w := w) (base := base) TWithParts TPartsBegin GB B
    have gTD := U6.ok_turnDer (P := PySem.Challenge.rw_phrasejoins_k06_whole_derivations_change.prog) (w := w) (base := base) TTurnedDerivation UK GB B TCheckDerivation gCheck TTurnedKnot (fun H0 => U6.ok_turnedKnot (P := PySem.Challenge.rw_phrasejoins_k06_whole_derivations_change.prog) (w := w) (base := base) TTurnedKnot TTurned.T gTurned TTurnedPlaced GN)
    have gPO := U6.ok_plainOut (P := PySem.Challenge.rw_phrasejoins_k06_whole_derivations_change.prog) (w := w) (base := base) TPlainOut UK GB B TCheckDerivation gCheck TPlainKnot.T (fun H0 => U6.ok_plainKnot (P := PySem.Challenge.rw_phrasejoins_k06_whole_derivations_change.prog) (w := w) (base := base) TPlainKnot tK UF B TPlainStep TWithParts TPartsBegin GB)
    have gWP := U6.ok_withPut (fk := 0) (fdk := PySem.W.fnOf "law" "law" (L2.defArgs U6.sLaw) (L2.defBody U6.sLaw) (L2.defScope U6.sLaw) .none .none .none .none none .none .none) (P := PySem.Challenge.rw_phrasejoins_k06_whole_derivations_change.prog) (w := w) (base := base) TWithPut tW UK GB B TCheckDerivation gCheck TCheckMap gMap TPlainsIn gPlainsIn TKnotsIn gKnotsIn TPutIn.T gPutIn TWithParts gWPa
    have UD : U6.TDs _ mg _ _ _ _ _ _ _ _ _ _ := ⟨TLDraw, TLMixed, TLWord, TLWords, TLOneOf, B⟩
    have lDraw := U6.ok_draw (P := PySem.Challenge.rw_phrasejoins_k06_whole_derivations_change.prog) (w := w) (base := base) TLDraw TLMixed B
    have lPurses := U6.ok_purses (P := PySem.Challenge.rw_phrasejoins_k06_whole_derivations_change.prog) (w := w) (base := base) TLPurses TLPurse B
    have lPlains := U6.ok_plains (P := PySem.Challenge.rw_phrasejoins_k06_whole_derivations_change.prog) (w := w) (base := base) TLPlains UD
    have lKind2 := U6.ok_kind (P := PySem.Challenge.rw_phrasejoins_k06_whole_derivations_change.prog) (w := w) (base := base) TLKind UD 2 (by decide)
    have lKind3 := U6.ok_kind (P := PySem.Challenge.rw_phrasejoins_k06_whole_derivations_change.prog) (w := w) (base := base) TLKind UD 3 (by decide)
    have lTells := U6.ok_ltells (P := PySem.Challenge.rw_phrasejoins_k06_whole_derivations_change.prog) (w := w) (base := base) TLTells TLIsKind TLToldMade TLToldUsed TLIsPlace B 30
    have lTells60 := U6.ok_ltells (P := PySem.Challenge.rw_phrasejoins_k06_whole_derivations_change.prog) (w := w) (base := base) TLTells TLIsKind TLToldMade TLToldUsed TLIsPlace B 60
    have lExact := U6.ok_exact (P := PySem.Challenge.rw_phrasejoins_k06_whole_derivations_change.prog) (w := w) (base := base) TLExact B 60 (by decide)
    have lCuts := U6.ok_lcuts (P := PySem.Challenge.rw_phrasejoins_k06_whole_derivations_change.prog) (w := w) (base := base) TLManyCuts TLInner B 60
    have lSigns := U6.ok_lsg (P := PySem.Challenge.rw_phrasejoins_k06_whole_derivations_change.prog) (w := w) (base := base) TLSigns B 60
    have lOp2 := U6.ok_opened (P := PySem.Challenge.rw_phrasejoins_k06_whole_derivations_change.prog) (w := w) (base := base) TLOpened B 2
    have lMinor := U6.ok_minor (P := PySem.Challenge.rw_phrasejoins_k06_whole_derivations_change.prog) (w := w) (base := base) TLMinor TLDraw TLKind TLSigns TLOpened B lDraw lKind2 lSigns lOp2
    have lRule := U6.ok_oneRule (P := PySem.Challenge.rw_phrasejoins_k06_whole_derivations_change.prog) (w := w) (base := base) TLOneRule TLTells TLDraw TLKind TLMinor B lTells lDraw lKind2 lMinor
    have lDer := U6.ok_lder (P := PySem.Challenge.rw_phrasejoins_k06_whole_derivations_change.prog) (w := w) (base := base) TLDerivation TLTells TLDraw TLKind TLOneRule TLSigns B lTells lDraw lKind2 lRule lSigns
    have lSame := U6.ok_same (P := PySem.Challenge.rw_phrasejoins_k06_whole_derivations_change.prog) (w := w) (base := base) TLSame B 30
    have lTurned := U6.ok_lturned (P := PySem.Challenge.rw_phrasejoins_k06_whole_derivations_change.prog) (w := w) (base := base) TLTurned B 30 (by decide)
    have lPut := U6.ok_lput (P := PySem.Challenge.rw_phrasejoins_k06_whole_derivations_change.prog) (w := w) (base := base) TLPut B 30 (by decide)
    have lAbout := U6.ok_about (P := PySem.Challenge.rw_phrasejoins_k06_whole_derivations_change.prog) (w := w) (base := base) TLAbout TLTells TLTurned B (U6.ok_ltells (P := PySem.Challenge.rw_phrasejoins_k06_whole_derivations_change.prog) (w := w) (base := base) TLTells TLIsKind TLToldMade TLToldUsed TLIsPlace B) 30 (by decide)
    have lPutAll := U6.ok_putAll (P := PySem.Challenge.rw_phrasejoins_k06_whole_derivations_change.prog) (w := w) (base := base) TLPutAll TLPut B 30 (by decide)
    have lEnds := U6.ok_ends (P := PySem.Challenge.rw_phrasejoins_k06_whole_derivations_change.prog) (w := w) (base := base) TLEnds TLInner B 60
    have lShuf := U6.ok_shuffled (P := PySem.Challenge.rw_phrasejoins_k06_whole_derivations_change.prog) (w := w) (base := base) TLShuffled TLDraw TLMixed B
    have lPW := U6.ok_plainWords (P := PySem.Challenge.rw_phrasejoins_k06_whole_derivations_change.prog) (w := w) (base := base) TLPlainWords TLPlainList B
    have lCut := U6.ok_cutsRight (P := PySem.Challenge.rw_phrasejoins_k06_whole_derivations_change.prog) (w := w) (base := base) TLCutsRight ⟨TLTells, TLExact, TLMinor, TToldBy, TCutIn, lTells60, lExact, lMinor, gToldBy, gCut⟩ B hEn
    have lCh := U6.ok_changesRight (P := PySem.Challenge.rw_phrasejoins_k06_whole_derivations_change.prog) (w := w) (base := base) TLChangesRight ⟨TLTells, TLExact, TTurnedDerivation, TLAbout, TToldBy, TLTurned, TLDraw, TLKind, TLShuffled, TLPlainWords, TLEnds, TWithPut.T, TLPutAll, TLPut, TPlainOut, TLManyCuts, TCutsOf,
      lTells60, lExact, gTD, lAbout, gToldBy, lTurned, lDraw, lKind2, lShuf, lPW, lEnds, gWP, lPutAll, lPut, gPO, lCuts, gCutsOf⟩ B
    exact U6.ok_law6 TLaw ⟨TLPurses, TLPlains, TLDraw, TLKind, TLDerivation, TLSame, TLChangesRight, TLCutsRight, TLExact, TToldBy, TLTells, TTurnedDerivation, TPlainOut, TLTurned, lPurses, lPlains, lDraw, lKind3, lDer, lSame, lCh, lCut, lExact, gToldBy, lTells60, gTD, gPO, lTurned⟩ B
