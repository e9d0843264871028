import PyProof.Rows.All
import Wide.All
import OpenK.AllK
import Wide.FinOn
import HandS.ForMost
import HandS.WideBits
import HandS.Defaults
import HandS.ExcInit
import HandS.IsInst
import HandS.Style
import HandS.Strs
import HandS.Zip
import HandS.NestedK
import HandS.EndTab
import HandS.CallLocal
import HandS.Walk
import PyProof.ListStr
import HandS.Conv
import HandS.Set
import HandS.TupSets
import HandS.SetFor
import HandS.SetTxt0
import PyProof.Rows.SortShellAny
import HandS.Deep
import PyProof.P3In
import HandS.TupLe
import PyProof.Rows.StrSplitCount
import PyProof.StrLawsChain
import HandS.FStr
import HandS.Replace
import HandS.ReplaceLit
import HandS.ReplaceDef
import HandS.Text
import HandS.ExcIs
import PyProof.ReprRoads
import HandS.ExcField
import KE.KExcIs
import HandS.ExcValue
import HandS.TryMany
import HandS.WordsExc
import HandS.Iter
import PyProof.Rows.StrStep
import PySem.Challenge.RW_phrasejoins_k31_whole_texts
set_option Elab.async false
set_option linter.all false
set_option maxRecDepth 100000
set_option maxHeartbeats 8000000
/-! Rules of our own: a list extended by a tuple; the end of a list cut off. Types as data. -/
namespace KT
open PySem PySem.Spec PyProof.Rows L2
open PySem.Sem (wp)
open MeetsSeq
/-! ### xs.extend(t), t a tuple -/
theorem list_extend_tup (l : Addr) (items : Array Value) (n : Nat) (b : Addr) (dd : Option Addr) (sl : Array (Option Value)) (items2 : Array Value) (n2 : Nat) (hs0 : ¬(!items.isEmpty && Builtin.List.listTooLong (items.size + items2.size)) = true) (hs1 : items.size ≤ sizeLine) (hs2 : items.size + items2.size ≤ sizeLine + 1) :
    Meets (Builtin.«list.extend» ⟨[.ref l, .ref b], []⟩) (fun _ R s => s.heap.get? l = some { cls := .type "list", dict := none, data := .seq items n, slots := #[] } ∧ s.heap.get? b = some { cls := .type "tuple", dict := dd, data := .seq items2 n2, slots := sl } ∧ R (.ok (.ret Value.none)) { s with heap := s.heap.update l (Obj.mapSeq fun x => x ++ items2), toks := s.toks }) :=
  .of_wp fun prog w A R s h => by
    obtain ⟨hp, g, d, tk, os⟩ := s; obtain ⟨hl, hb, h⟩ := h
    have f1 := AutoSeq1.idx_int; have f2 := AutoSeq1.sub_tuple_tuple; have f3 := AutoSeq1.sub_list_list; have f4 := AutoSeq1.sub_tuple_list; have f5 := AutoSeq1.sub_list_tuple
    have hz' : (items ++ items2).size ≤ sizeLine + 1 := by rw [Array.size_append]; exact hs2
    wp_walk using (wpAny_updateSeq hl rfl (hz := hs1) (_hz' := hz')), wpAny_loadPart' hl, wpAny_loadPart' hb; exact ⟨_, rfl, h⟩
section
variable {X : Cx}
def rExtT (K : PySem.W.Frag) : V → List V → Hp → VK → Prop := fun x vs H Q => ∃ l b xs zs, x = .ref l ∧ vs = [.ref b] ∧ H l = some (.lst xs) ∧ SqT K H b zs ∧ xs.length + zs.length ≤ sizeLine ∧ Q .non (upd H l (.lst (xs ++ zs)))
theorem mt_extT : MtM X "list.extend" (rExtT X.K) := by
  intro pins s σ H x vs v us Q I rx rv h
  obtain ⟨l, b, xs, zs, rfl, rfl, hH, hB, hz, q⟩ := h
  cases rx
  obtain ⟨u, rfl, ru⟩ := rv.one
  cases ru
  obtain ⟨z, its, n, r, hl, e⟩ := I.lstM hH
  obtain ⟨its2, r2, ⟨o, ho, hc, n2, hd⟩, hz2⟩ := I.tuple hB
  obtain ⟨oc, od, dt, sl⟩ := o
  simp only at hc hd
  subst hc hd
  have hl2 := r2.length
  have hsz : its.toArray.size + its2.toArray.size ≤ sizeLine := by rw [List.size_toArray, List.size_toArray]; omega
  have hlong : ¬ (!its.toArray.isEmpty && Builtin.List.listTooLong (its.toArray.size + its2.toArray.size)) = true := by
    rw [notLongL hsz, Bool.and_false]
    exact Bool.false_ne_true
  refine call_meets F.slot_list_extend ⟨_, e, rfl⟩ F.entry_list_extend (F.args_list_extend_2 _ _)
    (list_extend_tup l its.toArray n b od sl its2.toArray n2 hlong (by rw [List.size_toArray]; omega) (by omega)) ⟨e, ho, ?_⟩
  refine ⟨.non, _, I.lset (its' := its ++ its2) hH e (by simp) (r.append r2) ?_, rfl, q⟩
  rw [List.length_append]
  omega
end
/-! ### del xs[a:] -/
theorem drop_tail (its : List Value) (a : Nat) (h : a ≤ its.length) :
    (its.toArray.toList.zipIdx.filterMap fun (p : Value × Nat) => if (decide ((a : Int) ≤ (p.2 : Int)) && decide ((p.2 : Int) < (its.toArray.size : Int)) && ((p.2 : Int) - a) % 1 == 0) = true then none else some p.1).toArray = (its.take a).toArray := by
  congr 1
  rw [List.toList_toArray, List.size_toArray]
  have key : ∀ (l : List Value) (k : Nat), k + l.length ≤ its.length → (l.zipIdx k).filterMap (fun (p : Value × Nat) => if (decide ((a : Int) ≤ (p.2 : Int)) && decide ((p.2 : Int) < (its.length : Int)) && ((p.2 : Int) - a) % 1 == 0) = true then none else some p.1) = l.take (a - k) := by
    intro l
    induction l with
    | nil => intro k _; simp
    | cons x r ih =>
      intro k hk
      rw [List.length_cons] at hk
      rw [List.zipIdx_cons, List.filterMap_cons, ih (k + 1) (by omega)]
      have h1 : ((k : Int) - a) % 1 = 0 := by omega
      have h2 : ((k : Int) < (its.length : Int)) := by omega
      by_cases c : a ≤ k
      · have c' : ((a : Int) ≤ (k : Int)) := by omega
        have e0 : a - k = 0 := by omega
        have e1 : a - (k + 1) = 0 := by omega
        simp [h1, h2, c', e0, e1]
      · have c' : ¬ ((a : Int) ≤ (k : Int)) := by omega
        have e0 : a - k = (a - (k + 1)) + 1 := by omega
        simp [c', e0]
  have q := key its 0 (by omega)
  simpa using q
section
variable {prog : Program} {w : World} {A : Around} {E : Value → Shared → Prop} {s : Shared}
theorem bounds_end {a n : Nat} (h : a ≤ n) : sliceBounds (some (a : Int)) none none n = ((a : Int), (n : Int), 1) := by
  simp only [sliceBounds, Option.getD_none]
  have h1 : ¬ ((a : Int) < 0) := by omega
  simp only [h1, if_false, show (1 : Int) > 0 by decide, if_true]
  congr 1
  omega
theorem delItem_slice {l sl : Addr} {its : List Value} {n : Nat} {vl : Value} {a : Nat} {Q : Unit → Shared → Prop}
    (e : s.heap.get? l = some { cls := .type "list", data := .seq its.toArray n }) (hs : s.heap.IsSliceOf sl vl .none .none) (pl : IsPart vl (some (a : Int))) (ha : a ≤ its.length) (hsz : its.toArray.size ≤ sizeLine)
    (h : ∀ g : Array Value → Array Value, g its.toArray = (its.take a).toArray → Q () { s with heap := s.heap.update l (Obj.mapSeq g) }) :
    wpAny (model prog w) A (delItem (.ref l) (.ref sl)) Q E s := by
  have hl : s.heap.IsList l its.toArray := PySem.IsL.isList e
  obtain ⟨os, hos, hcs, hds⟩ := id hs
  have hTs : s.TypeIs (.ref sl) "slice" := ⟨os, hos, hcs⟩
  have hstep : ¬ ((rawPart none == rawInt 0) = true) := Bool.false_ne_true
  refine wpAny_delItem_slot hl.typeIs (by decide) F.slot_list_delitem (wpAny_call_entry F.slot_list_delitem hl.typeIs F.entry_list_delitem ?_ (F.args_list_delitem_2 _ _))
  show wpAny _ _ (Builtin.List.listSubscript? (.ref sl) >>= _) _ _ s
  refine wpAny_bind ?_
  unfold Builtin.List.listSubscript?
  refine wpAny_bind (wpAny_specialOf hTs slice_no_index ?_)
  simp only [Option.isNone_none, if_true]
  refine wpAny_pure ?_
  show wpAny _ _ (typeOf (.ref sl) >>= _) _ _ s
  refine wpAny_bind (wpAny_typeOf hTs ?_)
  first
    | rw [if_neg (by decide)]
    | refine PySem.W.KFB.if_not (by decide) ?_
  rw [listSliceParts_eq]
  refine wpAny_bind (wpAny_bind (wpAny_field hos hds (x := .none) rfl (wpAny_bind (wpAny_listPart .none ?_))))
  rw [if_neg hstep]
  refine wpAny_bind (wpAny_field hos hds (x := vl) rfl (wpAny_bind (wpAny_listPart pl ?_)))
  refine wpAny_bind (wpAny_field hos hds (x := .none) rfl (wpAny_bind (wpAny_listPart .none (wpAny_pure ?_))))
  refine wpAny_bind (m := Builtin.List.listItems (.ref l)) ?_
  unfold Builtin.List.listItems
  refine wpAny_bind (wpAny_seqItems e rfl (wpAny_pure ?_))
  refine wpAny_bind (wpAny_of_eq ((sliceIndices_raw (some (a : Int)) none none its.toArray.size (by simp)).trans (congrArg (pure : Int × Int × Int → Sem (Int × Int × Int)) (bounds_end (by rw [List.size_toArray]; exact ha)))) ?_)
  refine wpAny_bind (wpAny_rule ?_)
  refine wpAny_bind (wpAny_updateSeq (hz := hsz) (_hz' := ?hz) e rfl ?main)
  case hz =>
    refine Nat.le_trans (Nat.le_of_eq (congrArg Array.size (drop_tail its a ha))) ?_
    rw [List.size_toArray, List.length_take]
    rw [List.size_toArray] at hsz
    omega
  case main =>
    refine wpAny_bind (wpAny_letGo ?_)
    refine wpAny_pure ⟨.none, rfl, h _ ?_⟩
    exact drop_tail its a ha
end
section
variable {X : Cx}
/-- del xs[a:] of a list -/
def tDelTail (to : TE) (tl : TO) : TS := fun D σ H => to σ H fun x H1 => tl σ H1 fun y H2 => ∃ (l : Addr) (xs : List V) (a : Nat), x = .ref l ∧ y = some (a : Int) ∧ H2 l = some (.lst xs) ∧ a ≤ xs.length ∧ D.nx σ (upd H2 l (.lst (xs.take a)))
theorem ps_delTail {o : Expr} {lo : Option Expr} {to : TE} {tl : TO} {tpos p2 pos : Pos} (ho : PE X o to) (hl : PO X lo tl) : PS X (.Delete [.Subscript o (.Slice lo none none p2) tpos] pos) (tDelTail to tl) := by
  refine ⟨fun pins s σ H D I h => ?_⟩
  refine wpAny_Delete (wpAny_deleteEach_cons (wpAny_delete_Subscript (thn (ho.run pins s σ H _ I h) fun u s1 ⟨x, H1, I1, rx, q1⟩ => wpAny_Slice (thn (hl.run pins s1 σ H1 _ I1 q1) fun vl s2 ⟨l, H2, I2, pl, q2⟩ => ?_))))
  rw [evalPart_none]
  refine wpAny_pure ?_
  refine wpAny_pure ?_
  obtain ⟨ll, xs, a, ex, ey, hH, ha, q2⟩ := q2
  subst ex
  subst ey
  cases (show u = Value.ref ll from rx)
  have I4 : Inv X pins σ H2 { s2 with heap := s2.heap.push { cls := .type "slice", data := .fields #[vl, .none, .none] } } := I2.kept (t' := s2.toks) fun b ob q => Heap.get?_push_of_some _ q
  obtain ⟨z, its, n, r, hl', e⟩ := I4.lstM hH
  refine delItem_slice (a := a) e (Heap.IsSliceOf.new ..) pl (by omega) (by rw [List.size_toArray]; omega) fun g hg => wpAny_deleteEach_nil ⟨σ, _, I4.lset (its' := its.take a) (t' := s2.toks) hH e hg (r.take a) ?_, q2⟩
  rw [List.length_take]
  omega
end
end KT

namespace V1
open PySem PySem.Spec PyProof.Rows L2
open PySem.W (Frag)
/-! ### the text by places -/
def top (i : Nat) : Stmt := PySem.Challenge.pw_phrasejoins_k31_whole_texts.main.body.getD i (.Pass ⟨0, 0, 0, 0⟩)
abbrev sNodesIn : Stmt := top 6
abbrev sFromInside : Stmt := top 7
abbrev sIsWord : Stmt := top 10
abbrev sIsSigned : Stmt := top 13
abbrev sIsKind : Stmt := top 14
abbrev sCheckKind : Stmt := top 15
abbrev sPartsOf : Stmt := top 16
abbrev sFolded : Stmt := top 17
abbrev sAreKinds : Stmt := top 19
abbrev sIsRow : Stmt := top 20
abbrev sCheckRow : Stmt := top 21
abbrev sTextOf : Stmt := top 25
abbrev sKindText : Stmt := top 26
abbrev sPutTogether : Stmt := top 27
abbrev sKindTold : Stmt := top 28
abbrev sKindsTold : Stmt := top 29
abbrev sReadKind : Stmt := top 30
abbrev sRowText : Stmt := top 31
abbrev sReadRow : Stmt := top 32
abbrev sKindsText : Stmt := top 33
abbrev sReadKinds : Stmt := top 34
abbrev sLPurse : Stmt := top 36
abbrev sLMixed : Stmt := top 37
abbrev sLDraw : Stmt := top 38
abbrev sLPurses : Stmt := top 39
abbrev sLOneOf : Stmt := top 40
abbrev sLExact : Stmt := top 41
abbrev sLWord : Stmt := top 42
abbrev sLWords : Stmt := top 43
abbrev sLPlains : Stmt := top 44
abbrev sLKind : Stmt := top 45
abbrev sLIsKind : Stmt := top 46
abbrev sLText : Stmt := top 47
abbrev sLPieces : Stmt := top 48
abbrev sLKindIn : Stmt := top 49
abbrev sLRead : Stmt := top 50
abbrev sLDue : Stmt := top 51
abbrev sLBent : Stmt := top 52
abbrev sLaw : Stmt := top 53
abbrev nNodesIn : List Str := ["root", "parts_of", "waiting", "nodes", "node"]
abbrev pNodesIn : List Str := ["root", "parts_of"]
theorem scNodesIn : FnScope nNodesIn pNodesIn (defScope sNodesIn) := ⟨rfl, rfl, rfl, by decide +kernel, rfl, by decide +kernel, by decide +kernel⟩
abbrev nFromInside : List Str := ["root", "parts_of", "at_node", "came", "node", "begin", "parts"]
abbrev pFromInside : List Str := ["root", "parts_of", "at_node"]
theorem scFromInside : FnScope nFromInside pFromInside (defScope sFromInside) := ⟨rfl, rfl, rfl, by decide +kernel, rfl, by decide +kernel, by decide +kernel⟩
abbrev nIsWord : List Str := ["value", "letter"]
abbrev pIsWord : List Str := ["value"]
theorem scIsWord : FnScope nIsWord pIsWord (defScope sIsWord) := ⟨rfl, rfl, rfl, by decide +kernel, rfl, by decide +kernel, by decide +kernel⟩
abbrev nIsSigned : List Str := ["value"]
abbrev pIsSigned : List Str := ["value"]
theorem scIsSigned : FnScope nIsSigned pIsSigned (defScope sIsSigned) := ⟨rfl, rfl, rfl, by decide +kernel, rfl, by decide +kernel, by decide +kernel⟩
abbrev nIsKind : List Str := ["value", "waiting", "part"]
abbrev pIsKind : List Str := ["value"]
theorem scIsKind : FnScope nIsKind pIsKind (defScope sIsKind) := ⟨rfl, rfl, rfl, by decide +kernel, rfl, by decide +kernel, by decide +kernel⟩
abbrev nCheckKind : List Str := ["kind"]
abbrev pCheckKind : List Str := ["kind"]
theorem scCheckKind : FnScope nCheckKind pCheckKind (defScope sCheckKind) := ⟨rfl, rfl, rfl, by decide +kernel, rfl, by decide +kernel, by decide +kernel⟩
abbrev nPartsOf : List Str := ["kind"]
abbrev pPartsOf : List Str := ["kind"]
theorem scPartsOf : FnScope nPartsOf pPartsOf (defScope sPartsOf) := ⟨rfl, rfl, rfl, by decide +kernel, rfl, by decide +kernel, by decide +kernel⟩
abbrev nFolded : List Str := ["kind", "at_plain", "at_signed", "at_part"]
abbrev pFolded : List Str := ["kind", "at_plain", "at_signed"]
theorem scFolded : FnScope nFolded pFolded (defScope sFolded) := ⟨rfl, rfl, rfl, by decide +kernel, rfl, by decide +kernel, by decide +kernel⟩
abbrev nAreKinds : List Str := ["value", "kind"]
abbrev pAreKinds : List Str := ["value"]
theorem scAreKinds : FnScope nAreKinds pAreKinds (defScope sAreKinds) := ⟨rfl, rfl, rfl, by decide +kernel, rfl, by decide +kernel, by decide +kernel⟩
abbrev nIsRow : List Str := ["value"]
abbrev pIsRow : List Str := ["value"]
theorem scIsRow : FnScope nIsRow pIsRow (defScope sIsRow) := ⟨rfl, rfl, rfl, by decide +kernel, rfl, by decide +kernel, by decide +kernel⟩
abbrev nCheckRow : List Str := ["row"]
abbrev pCheckRow : List Str := ["row"]
theorem scCheckRow : FnScope nCheckRow pCheckRow (defScope sCheckRow) := ⟨rfl, rfl, rfl, by decide +kernel, rfl, by decide +kernel, by decide +kernel⟩
abbrev nTextOf : List Str := ["kind"]
abbrev pTextOf : List Str := ["kind"]
theorem scTextOf : FnScope nTextOf pTextOf (defScope sTextOf) := ⟨rfl, rfl, rfl, by decide +kernel, rfl, by decide +kernel, by decide +kernel⟩
abbrev nKindText : List Str := ["kind"]
abbrev pKindText : List Str := ["kind"]
theorem scKindText : FnScope nKindText pKindText (defScope sKindText) := ⟨rfl, rfl, rfl, by decide +kernel, rfl, by decide +kernel, by decide +kernel⟩
abbrev nPutTogether : List Str := ["text", "read", "part", "_", "first", "sign", "second"]
abbrev pPutTogether : List Str := ["text"]
theorem scPutTogether : FnScope nPutTogether pPutTogether (defScope sPutTogether) := ⟨rfl, rfl, rfl, by decide +kernel, rfl, by decide +kernel, by decide +kernel⟩
abbrev nKindTold : List Str := ["text", "kind"]
abbrev pKindTold : List Str := ["text"]
theorem scKindTold : FnScope nKindTold pKindTold (defScope sKindTold) := ⟨rfl, rfl, rfl, by decide +kernel, rfl, by decide +kernel, by decide +kernel⟩
abbrev nKindsTold : List Str := ["text", "between", "kinds", "part"]
abbrev pKindsTold : List Str := ["text", "between"]
theorem scKindsTold : FnScope nKindsTold pKindsTold (defScope sKindsTold) := ⟨rfl, rfl, rfl, by decide +kernel, rfl, by decide +kernel, by decide +kernel⟩
abbrev nReadKind : List Str := ["text", "kind"]
abbrev pReadKind : List Str := ["text"]
theorem scReadKind : FnScope nReadKind pReadKind (defScope sReadKind) := ⟨rfl, rfl, rfl, by decide +kernel, rfl, by decide +kernel, by decide +kernel⟩
abbrev nRowText : List Str := ["row", "kind"]
abbrev pRowText : List Str := ["row"]
theorem scRowText : FnScope nRowText pRowText (defScope sRowText) := ⟨rfl, rfl, rfl, by decide +kernel, rfl, by decide +kernel, by decide +kernel⟩
abbrev nReadRow : List Str := ["text"]
abbrev pReadRow : List Str := ["text"]
theorem scReadRow : FnScope nReadRow pReadRow (defScope sReadRow) := ⟨rfl, rfl, rfl, by decide +kernel, rfl, by decide +kernel, by decide +kernel⟩
abbrev nKindsText : List Str := ["kinds", "kind"]
abbrev pKindsText : List Str := ["kinds"]
theorem scKindsText : FnScope nKindsText pKindsText (defScope sKindsText) := ⟨rfl, rfl, rfl, by decide +kernel, rfl, by decide +kernel, by decide +kernel⟩
abbrev nReadKinds : List Str := ["text"]
abbrev pReadKinds : List Str := ["text"]
theorem scReadKinds : FnScope nReadKinds pReadKinds (defScope sReadKinds) := ⟨rfl, rfl, rfl, by decide +kernel, rfl, by decide +kernel, by decide +kernel⟩
abbrev nLPurse : List Str := ["script", "at", "seed"]
abbrev pLPurse : List Str := ["script", "at"]
theorem scLPurse : FnScope nLPurse pLPurse (defScope sLPurse) := ⟨rfl, rfl, rfl, by decide +kernel, rfl, by decide +kernel, by decide +kernel⟩
abbrev nLMixed : List Str := ["seed", "spin", "at", "mixed"]
abbrev pLMixed : List Str := ["seed", "spin", "at"]
theorem scLMixed : FnScope nLMixed pLMixed (defScope sLMixed) := ⟨rfl, rfl, rfl, by decide +kernel, rfl, by decide +kernel, by decide +kernel⟩
abbrev nLDraw : List Str := ["purse", "many", "drawn", "found", "piece"]
abbrev pLDraw : List Str := ["purse", "many"]
theorem scLDraw : FnScope nLDraw pLDraw (defScope sLDraw) := ⟨rfl, rfl, rfl, by decide +kernel, rfl, by decide +kernel, by decide +kernel⟩
abbrev nLPurses : List Str := ["script", "few", "at"]
abbrev pLPurses : List Str := ["script", "few"]
theorem scLPurses : FnScope nLPurses pLPurses (defScope sLPurses) := ⟨rfl, rfl, rfl, by decide +kernel, rfl, by decide +kernel, by decide +kernel⟩
abbrev nLOneOf : List Str := ["purse", "some"]
abbrev pLOneOf : List Str := ["purse", "some"]
theorem scLOneOf : FnScope nLOneOf pLOneOf (defScope sLOneOf) := ⟨rfl, rfl, rfl, by decide +kernel, rfl, by decide +kernel, by decide +kernel⟩
abbrev nLExact : List Str := ["mine", "theirs", "alike", "a", "b", "key"]
abbrev pLExact : List Str := ["mine", "theirs"]
theorem scLExact : FnScope nLExact pLExact (defScope sLExact) := ⟨rfl, rfl, rfl, by decide +kernel, rfl, by decide +kernel, by decide +kernel⟩
abbrev nLWord : List Str := ["purse", "size", "spin"]
abbrev pLWord : List Str := ["purse"]
theorem scLWord : FnScope nLWord pLWord (defScope sLWord) := ⟨rfl, rfl, rfl, by decide +kernel, rfl, by decide +kernel, by decide +kernel⟩
abbrev nLWords : List Str := ["purse", "many", "base", "near", "spot", "found", "spin", "word", "letter"]
abbrev pLWords : List Str := ["purse", "many"]
theorem scLWords : FnScope nLWords pLWords (defScope sLWords) := ⟨rfl, rfl, rfl, by decide +kernel, rfl, by decide +kernel, by decide +kernel⟩
abbrev nLPlains : List Str := ["purse", "most"]
abbrev pLPlains : List Str := ["purse", "most"]
theorem scLPlains : FnScope nLPlains pLPlains (defScope sLPlains) := ⟨rfl, rfl, rfl, by decide +kernel, rfl, by decide +kernel, by decide +kernel⟩
abbrev nLKind : List Str := ["purse", "plains", "signs", "first", "one", "other"]
abbrev pLKind : List Str := ["purse", "plains", "signs"]
theorem scLKind : FnScope nLKind pLKind (defScope sLKind) := ⟨rfl, rfl, rfl, by decide +kernel, rfl, by decide +kernel, by decide +kernel⟩
abbrev nLIsKind : List Str := ["value", "letter"]
abbrev pLIsKind : List Str := ["value"]
theorem scLIsKind : FnScope nLIsKind pLIsKind (defScope sLIsKind) := ⟨rfl, rfl, rfl, by decide +kernel, rfl, by decide +kernel, by decide +kernel⟩
abbrev nLText : List Str := ["kind"]
abbrev pLText : List Str := ["kind"]
theorem scLText : FnScope nLText pLText (defScope sLText) := ⟨rfl, rfl, rfl, by decide +kernel, rfl, by decide +kernel, by decide +kernel⟩
abbrev nLPieces : List Str := ["text", "found", "sign"]
abbrev pLPieces : List Str := ["text"]
theorem scLPieces : FnScope nLPieces pLPieces (defScope sLPieces) := ⟨rfl, rfl, rfl, by decide +kernel, rfl, by decide +kernel, by decide +kernel⟩
abbrev nLKindIn : List Str := ["text", "heap", "piece", "late", "part"]
abbrev pLKindIn : List Str := ["text"]
theorem scLKindIn : FnScope nLKindIn pLKindIn (defScope sLKindIn) := ⟨rfl, rfl, rfl, by decide +kernel, rfl, by decide +kernel, by decide +kernel⟩
abbrev nLRead : List Str := ["way", "text", "error"]
abbrev pLRead : List Str := ["way", "text"]
theorem scLRead : FnScope nLRead pLRead (defScope sLRead) := ⟨rfl, rfl, rfl, by decide +kernel, rfl, by decide +kernel, by decide +kernel⟩
abbrev nLDue : List Str := ["way", "text", "found", "piece"]
abbrev pLDue : List Str := ["way", "text"]
theorem scLDue : FnScope nLDue pLDue (defScope sLDue) := ⟨rfl, rfl, rfl, by decide +kernel, rfl, by decide +kernel, by decide +kernel⟩
abbrev nLBent : List Str := ["purse", "text", "spot", "sign", "way"]
abbrev pLBent : List Str := ["purse", "text"]
theorem scLBent : FnScope nLBent pLBent (defScope sLBent) := ⟨rfl, rfl, rfl, by decide +kernel, rfl, by decide +kernel, by decide +kernel⟩
abbrev nLaw : List Str := ["script", "purse", "plains", "some", "spin", "late", "row", "texts", "way", "text", "thing", "bent", "told", "kind"]
abbrev pLaw : List Str := ["script"]
theorem scLaw : FnScope nLaw pLaw (defScope sLaw) := ⟨rfl, rfl, rfl, by decide +kernel, rfl, by decide +kernel, by decide +kernel⟩
/-- a def of the top, as it stands behind it -/
structure Top (K : Frag) (mg : Str → Option Value) (x : Str) (st : Stmt) (ps : List Str) (f : Addr) (fd : FuncData) : Prop where
  F : Fun K x x st f fd
  g : mg x = some (.ref f)
  b : Binds K fd ps []
/-- the built-in names that are asked for -/
structure Blt (mg : Str → Option Value) : Prop where
  sum : mg "sum" = none
  int : mg "int" = none
  max : mg "max" = none
  min : mg "min" = none
  len : mg "len" = none
  range : mg "range" = none
  isi : mg "isinstance" = none
  list : mg "list" = none
  dict : mg "dict" = none
  tuple : mg "tuple" = none
  all : mg "all" = none
  str_ : mg "str" = none
  bool_ : mg "bool" = none
  sorted : mg "sorted" = none
  set : mg "set" = none
  reversed : mg "reversed" = none
  zip : mg "zip" = none
end V1

namespace V1
open PySem PySem.Spec PyProof.Rows L2
open PySem.W (Frag)
open TL (joinL tl tl_join)
section
variable {X : Cx}
/-- i ** j of great numbers -/
theorem op_powB : OpR X (binaryOp .Pow) (rI (fun i j => 0 ≤ j ∧ (Builtin.Int.intBits i : Int) * j ≤ 2 ^ 27) fun i j => .int (i ^ j.toNat)) :=
  opI fun i j t u s Q E c q => PyProof.Rows.pow_int c.1 c.2 q
end
section
variable {P : Program} {w : World} {K : Frag} {mg : Str → Option Value} {base : Heap}
/-! ### draws -/
/-- a purse at a, of which at most n draws were made -/
def PurseAt (H : Hp) (a : Addr) (n : Nat) : Prop := ∃ p0 p1 p2 p3 : Int, H a = some (.lst [.int p0, .int p1, .int p2, .int p3]) ∧ 0 ≤ p0 ∧ 0 ≤ p1 ∧ p1 < 2147483629 ∧ 0 ≤ p2 ∧ p2 ≤ n ∧ 0 ≤ p3 ∧ p3 ≤ 63
def spMixed : Sp := fun vs H Q _ => ∃ seed spin at_ : Int, vs = [.int seed, .int spin, .int at_] ∧ 0 ≤ seed ∧ seed < 2147483629 ∧ 0 ≤ spin ∧ spin ≤ 1099511627776 ∧ 0 ≤ at_ ∧ at_ ≤ 63 ∧ ∀ m : Int, 0 ≤ m → m < 2147483587 → Q (.int m) H
theorem ok_mixed {f : Addr} {fd : FuncData} (T : Top K mg "_law_mixed" sLMixed ["seed", "spin", "at"] f fd) (B : Blt mg) : FnOk P w K mg base CX0 1 f fd ["seed", "spin", "at"] spMixed := by
  refine T.F.ok scLMixed (fun vs H Q E h => ?_) (fun cdv A outer s H vs Q E hr h => ?_)
  · obtain ⟨_, _, _, rfl, _⟩ := h
    rfl
  · obtain ⟨seed, spin, at_, rfl, h0, h1, h2, h3, h4, h5, k⟩ := h
    refine ⟨_, (pss_cons (ps_set (i := 3) scLMixed.nd rfl (Or.inl rfl) (pe_op op_add (pe_op op_mul (pv 0) pe_int) (pe_op op_mul (pe_op op_mul pe_int (pv 1)) (pv 1))))
      (pss_cons (ps_set (i := 3) scLMixed.nd rfl (Or.inl rfl) (pe_op op_mod (pe_callTy call_int1 (by rfl) B.int (by decide +kernel) (pa_cons (pe_op op_add (pe_op op_add (pv 3) (pe_op op_mul pe_int (pv 2))) (pv 1)) pa_nil)) pe_int))
      (pss_cons (ps_set (i := 3) scLMixed.nd rfl (Or.inl rfl) (pe_op op_mod (pe_callTy call_int1 (by rfl) B.int (by decide +kernel) (pa_cons (pe_op op_add (pe_op op_mul (pv 3) (pv 3)) pe_int) pa_nil)) pe_int))
      (pss_one (ps_ret (pe_op op_mod (pe_callTy call_int1 (by rfl) B.int (by decide +kernel) (pa_cons (pe_op op_mul (pv 3) pe_int) pa_nil)) pe_int)))))), ?_⟩
    refine ⟨_, rfl, _, _, rfl, rfl, .inl ⟨by omega, by omega⟩, _, rfl, _, _, rfl, rfl, .inl ⟨by decide, by decide⟩, _, rfl, _, _, rfl, rfl, .inr ⟨by omega, by omega⟩, _, _, rfl, rfl, ?_⟩
    refine ⟨_, rfl, _, rfl, _, _, rfl, rfl, .inl ⟨by decide, by decide⟩, _, _, rfl, rfl, _, rfl, _, _, rfl, rfl, .inl ⟨_, rfl, _, _, rfl, rfl, (by show (0 : Int) < 2147483647; decide), ?_⟩⟩
    generalize e1 : (seed * 69069 + 104729 * spin * spin + 7919 * at_ + spin) % 2147483647 = m1
    have b1 : 0 ≤ m1 ∧ m1 < 2147483647 := by omega
    refine ⟨_, rfl, _, rfl, _, _, rfl, rfl, .inl ⟨by omega, by omega⟩, _, _, rfl, rfl, .inl ⟨_, rfl, _, _, rfl, rfl, (by show (0 : Int) < 2147483629; decide), ?_⟩⟩
    generalize e2 : (m1 * m1 + 40503) % 2147483629 = m2
    have b2 : 0 ≤ m2 ∧ m2 < 2147483629 := by omega
    refine ⟨_, rfl, _, _, rfl, rfl, .inl ⟨by omega, by omega⟩, .inl ⟨_, rfl, _, _, rfl, rfl, (by show (0 : Int) < 2147483587; decide), ?_⟩⟩
    exact k _ (by omega) (by omega)
def spDraw : Sp := fun vs H Q _ => ∃ (a : Addr) (n : Nat) (many : Int), vs = [.ref a, .int many] ∧ PurseAt H a n ∧ n ≤ 1000000000000 ∧ 1 ≤ many ∧ many < 1048576 ∧
  ∀ (d : Int) (H' : Hp), 0 ≤ d → d < many → (∀ b, b ≠ a → H' b = H b) → PurseAt H' a (n + 1) → Q (.int d) H'
theorem bits_small {m : Int} (h1 : 1 ≤ m) (h2 : m < 1048576) : (1 : Int) + ((Builtin.Int.intBits m : Nat) : Int) / 28 = 1 := by
  have b : Builtin.Int.intBits m ≤ 20 := by
    unfold Builtin.Int.intBits
    split
    · omega
    · have e : m.natAbs < 2 ^ 20 := by
        have : (2 : Nat) ^ 20 = 1048576 := by decide
        omega
      have := (Nat.log2_lt (by omega)).mpr e
      omega
  omega
theorem ok_draw {f fm : Addr} {fd fdm : FuncData} (T : Top K mg "_law_draw" sLDraw ["purse", "many"] f fd) (TM : Top K mg "_law_mixed" sLMixed ["seed", "spin", "at"] fm fdm) (B : Blt mg) :
    FnOk P w K mg base CX0 2 f fd ["purse", "many"] spDraw := by
  have GM : FnOk P w K mg base CX0 1 fm fdm ["seed", "spin", "at"] spMixed := ok_mixed TM B
  refine T.F.ok scLDraw (fun vs H Q E h => ?_) (fun cdv A outer s H vs Q E hr h => ?_)
  · obtain ⟨_, _, _, rfl, _⟩ := h
    rfl
  · obtain ⟨a, n, many, rfl, ⟨p0, p1, p2, p3, hp, h0, h1, h1', h2, h2', h3, h3'⟩, hn, hm1, hm2, k⟩ := h
    refine ⟨_, (pss_cons (ps_if (pt_cmpR op_gt (pe_ix ix_list (pv 0) pe_int (fun _ _ => rfl)) pe_int (nomark _))
        (pss_cons (ps_set (i := 2) scLDraw.nd rfl (Or.inl rfl) (pe_op op_mod (pe_callTy call_int1 (by rfl) B.int (by decide +kernel) (pa_cons (pe_ix ix_list (pv 0) pe_int (fun _ _ => rfl)) pa_nil)) (pv 1)))
      (pss_cons (ps_asg (pe_op op_fdiv (pe_ix ix_list (pv 0) pe_int (fun _ _ => rfl)) (pv 1)) (pg_sub (pv 0) pe_int set_list))
      (pss_one (ps_ret (pv 2))))) pss_nil)
      (pss_cons (ps_set (i := 3) scLDraw.nd rfl (Or.inl rfl) pe_int)
      (pss_cons (ps_for PassesOwn.never rfl (pi_range1 (by rfl) B.range (pa_cons (pe_op op_add pe_int (pe_op op_fdiv (pe_bits (pv 1)) pe_int)) pa_nil)) (pg_name (i := 4) scLDraw.nd rfl (Or.inl rfl))
        (pss_cons (ps_asg (pe_op op_add (pe_ix ix_list (pv 0) pe_int (fun _ _ => rfl)) pe_int) (pg_sub (pv 0) pe_int set_list))
      (pss_one (ps_set (i := 3) scLDraw.nd rfl (Or.inl rfl) (pe_op op_add (pe_op op_mul (pv 3) pe_int) (pe_call GM hr rfl TM.g TM.F.kp TM.b .nil pass0 (pa_cons (pe_ix ix_list (pv 0) pe_int (fun _ _ => rfl)) (pa_cons (pe_ix ix_list (pv 0) pe_int (fun _ _ => rfl)) (pa_cons (pe_ix ix_list (pv 0) pe_int (fun _ _ => rfl)) pa_nil)))))))))
      (pss_one (ps_ret (pe_op op_mod (pe_callTy call_int1 (by rfl) B.int (by decide +kernel) (pa_cons (pv 3) pa_nil)) (pv 1))))))), ?_⟩
    refine ⟨_, rfl, _, _, _, _, rfl, rfl, SqL.of hp, atI_nat (j := 0) rfl, _, _, rfl, rfl, _, rfl, ite2 (fun c => ?_) (fun c => ?_)⟩
    · have c' : 0 < p0 := of_decide_eq_true c
      refine ⟨_, rfl, _, _, _, _, rfl, rfl, SqL.of hp, atI_nat (j := 0) rfl, .inl ⟨_, rfl, _, rfl, _, _, rfl, rfl, (by show 0 < many; omega), ?_⟩⟩
      refine ⟨_, rfl, _, _, _, _, rfl, rfl, SqL.of hp, atI_nat (j := 0) rfl, _, rfl, _, _, rfl, rfl, ⟨by omega, by omega⟩, _, rfl, _, _, _, 0, rfl, rfl, hp, rfl, _, rfl, ?_⟩
      refine k _ _ (Int.emod_nonneg _ (by omega)) (Int.emod_lt_of_pos _ (by omega)) (fun b hb => upd_ne hb) ⟨p0 / many, p1, p2, p3, upd_same, Int.ediv_nonneg h0 (by omega), h1, h1', h2, by omega, h3, h3'⟩
    · refine ⟨_, rfl, _, rfl, _, _, rfl, rfl, ⟨by decide, by decide⟩, _, _, rfl, rfl, _, rfl, ?_, ?_, ?_⟩
      · rw [bits_small hm1 hm2]
        decide
      · rw [bits_small hm1 hm2]
        decide
      rw [bits_small hm1 hm2]
      refine for_range (lo := 0) (n := 1) (fun i σ H' => ∃ (v2 v4 : Option V) (z : Int), σ = [some (.ref a), some (.int many), v2, some (.int z), v4] ∧ (i = 0 → z = 0 ∧ H' = H) ∧ (i = 1 → (∀ b, b ≠ a → H' b = H b) ∧ PurseAt H' a (n + 1)))
        ⟨_, _, 0, rfl, fun _ => ⟨rfl, rfl⟩, fun e => by cases e⟩ ?_ ?_
      · rintro i σ H' hi ⟨v2, v4, z, rfl, hz, _⟩
        obtain rfl : i = 0 := by omega
        obtain ⟨rfl, rfl⟩ := hz rfl
        refine ⟨_, rfl, _, _, _, _, rfl, rfl, SqL.of hp, atI_nat (j := 2) rfl, _, _, rfl, rfl, _, rfl, _, _, _, 2, rfl, rfl, hp, rfl, ?_⟩
        refine ⟨_, rfl, _, _, rfl, rfl, .inl ⟨by decide, by decide⟩, _, rfl, _, _, _, _, rfl, rfl, SqL.of upd_same, atI_nat (j := 1) rfl, _, rfl, _, _, _, _, rfl, rfl, SqL.of upd_same, atI_nat (j := 2) rfl, _, rfl, _, _, _, _, rfl, rfl, SqL.of upd_same, atI_nat (j := 3) rfl, ?_⟩
        refine ⟨_, _, _, rfl, h1, h1', by omega, by omega, h3, h3', fun m m0 m1 => ⟨_, _, rfl, rfl, ?_⟩⟩
        exact ⟨_, _, _, rfl, (fun e => by cases e), fun _ => ⟨fun b hb => upd_ne hb, p0, p1, p2 + 1, p3, upd_same, h0, h1, h1', by omega, by omega, h3, h3'⟩⟩
      · rintro σ H' ⟨v2, v4, z, rfl, _, hz⟩
        obtain ⟨z1, z2⟩ := hz rfl
        exact ⟨_, rfl, .inl ⟨_, rfl, _, rfl, _, _, rfl, rfl, (by show 0 < many; omega), k _ _ (Int.emod_nonneg _ (by omega)) (Int.emod_lt_of_pos _ (by omega)) z1 z2⟩⟩
/-! ### purses -/
theorem cut_ints (ns : List Int) (lo hi : Option Int) : ∃ ms : List Int, cutV (ns.map V.int) lo hi = ms.map V.int := by
  unfold cutV
  exact ⟨_, by rw [List.map_take, List.map_drop]⟩
def spPurse (K : Frag) : Sp := fun vs H Q _ => ∃ (a : Addr) (ns : List Int) (i : Int), vs = [.ref a, .int i] ∧ SqL K H a (ns.map V.int) ∧ 0 ≤ i ∧ i ≤ 63 ∧ ∀ (p : Addr) (H' : Hp), Same H H' → H p = none → PurseAt H' p 0 → Q (.ref p) H'
theorem same_upd {H : Hp} {p : Addr} {o : HO} (h : H p = none) : Same H (upd H p o) := fun b u e => by
  rw [upd_ne (ne_of_none e h)]
  exact e
theorem ok_purse {f : Addr} {fd : FuncData} (T : Top K mg "_law_purse" sLPurse ["script", "at"] f fd) (B : Blt mg) : FnOk P w K mg base CX0 1 f fd ["script", "at"] (spPurse K) := by
  refine T.F.ok scLPurse (fun vs H Q E h => ?_) (fun cdv A outer s H vs Q E hr h => ?_)
  · obtain ⟨_, _, _, rfl, _⟩ := h
    rfl
  · obtain ⟨a, ns, i, rfl, hS, i0, i1, k⟩ := h
    refine ⟨_, (pss_cons (ps_set (i := 2) scLPurse.nd rfl (Or.inl rfl) (pe_callB (cr_sum rfl) (by rfl) B.sum (by decide +kernel) (pa_cons (pe_slice sl_list (pv 0) (po_some (pv 1)) (po_some (pe_op op_add (pv 1) pe_int))) pa_nil)))
      (pss_one (ps_ret (pe_lst (pa_cons (pe_op op_mod (pe_callTy call_int1 (by rfl) B.int (by decide +kernel) (pa_cons (pe_callB (call_max2 rfl) (by rfl) B.max (by decide +kernel) (pa_cons (pe_op op_sub (pv 2) (pe_op op_pow pe_int pe_int)) (pa_cons pe_int pa_nil))) pa_nil)) (pe_op op_powB (pe_op op_pow pe_int pe_int) pe_int)) (pa_cons (pe_op op_mod (pe_callTy call_int1 (by rfl) B.int (by decide +kernel) (pa_cons (pv 2) pa_nil)) pe_int) (pa_cons pe_int (pa_cons (pv 1) pa_nil)))))))), ?_⟩
    obtain ⟨ms, em⟩ := cut_ints ns (some i) (some (i + 1))
    refine ⟨_, rfl, _, rfl, i, rfl, _, rfl, _, _, rfl, rfl, i + 1, rfl, a, _, rfl, hS, fun q hq => ⟨q, ms, rfl, ?_, ?_⟩⟩
    · rw [em]
      exact SqL.of upd_same
    · refine ⟨_, rfl, _, _, rfl, rfl, ⟨by decide, by decide, by decide⟩, _, _, rfl, rfl, _, _, rfl, .inl ⟨_, rfl, _, _, rfl, rfl, ⟨by decide, by decide, by decide⟩, _, _, rfl, rfl, ⟨by decide, by decide +kernel⟩, _, _, rfl, rfl, (show (0 : Int) < (10 ^ (60 : Int).toNat) ^ (8 : Int).toNat by decide +kernel), ?_⟩⟩
      refine ⟨_, rfl, .inl ⟨_, rfl, _, _, rfl, rfl, (by show (0 : Int) < 2147483629; decide), _, rfl, (by show 4 ≤ sizeLine; decide), fun p hp => ?_⟩⟩
      have hp0 : H p = none := (same_upd hq).free hp
      refine k p _ ((same_upd hq).trans (same_upd hp)) hp0 ⟨_, _, 0, i, upd_same, Int.emod_nonneg _ (by decide +kernel), Int.emod_nonneg _ (by decide), Int.emod_lt_of_pos _ (by decide), Int.le_refl _, Int.le_refl _, i0, i1⟩
def spPurses (K : Frag) : Sp := fun vs H Q _ => ∃ (a : Addr) (ns : List Int), vs = [.ref a, .int 1] ∧ SqL K H a (ns.map V.int) ∧
  ∀ (L p : Addr) (H' : Hp), Same H H' → H L = none → H p = none → L ≠ p → H' L = some (.lst [.ref p]) → PurseAt H' p 0 → Q (.ref L) H'
theorem ok_purses {f fp : Addr} {fd fdp : FuncData} (T : Top K mg "_law_purses" sLPurses ["script", "few"] f fd) (TP : Top K mg "_law_purse" sLPurse ["script", "at"] fp fdp) (B : Blt mg) :
    FnOk P w K mg base CX0 2 f fd ["script", "few"] (spPurses K) := by
  have GP : FnOk P w K mg base CX0 1 fp fdp ["script", "at"] (spPurse K) := ok_purse TP B
  refine T.F.ok scLPurses (fun vs H Q E h => ?_) (fun cdv A outer s H vs Q E hr h => ?_)
  · obtain ⟨_, _, rfl, _⟩ := h
    rfl
  · obtain ⟨a, ns, rfl, hS, k⟩ := h
    refine ⟨_, pss_one (ps_ret (pe_lc (own := [("at", 2)]) (g := gName 2) (tt := tYes) rfl scLPurses.nd (pi_range1 (by rfl) B.range (pa_cons (pe_callB (call_max2 rfl) (by rfl) B.max (by decide +kernel) (pa_cons pe_int (pa_cons (pe_callB (call_min2 rfl) (by rfl) B.min (by decide +kernel) (pa_cons (pv 1) (pa_cons (pe_callB call_len_seq (by rfl) B.len PySem.boot_len (pa_cons (pv 0) pa_nil)) pa_nil))) pa_nil))) pa_nil))
      (blkOk_by (N := ["script", "few", "at"]) (sc := defScope sLPurses) (by decide +kernel)) (fun _ _ _ _ _ => pg_name (i := 2) scLPurses.nd rfl (Or.inl rfl)) (fun _ _ _ _ _ => pts_nil)
      (fun _ _ _ _ _ => (pe_call GP hr rfl TP.g TP.F.kp TP.b .nil pass0 (pa_cons (pv 0) (pa_cons (pv 2) pa_nil)))))), ?_⟩
    have e : ∀ m : Nat, (if (if (m : Int) < 1 then (m : Int) else 1) > 1 then (if (m : Int) < 1 then (m : Int) else 1) else 1) = (1 : Int) := by
      intro m
      split <;> split <;> omega
    refine ⟨_, rfl, _, rfl, a, _, rfl, .inl hS, _, _, rfl, _, _, rfl, _, rfl, ?_, ?_, ?_⟩
    · rw [e]
      decide
    · rw [e]
      decide
    rw [e]
    intro D hD
    refine lc_range (lo := 0) (n := 1) (fun i H' => (i = 0 → H' = upd H D (.lst [])) ∧ (i = 1 → ∃ p, Same H H' ∧ H p = none ∧ D ≠ p ∧ H' D = some (.lst [.ref p]) ∧ PurseAt H' p 0))
      ⟨fun _ => rfl, fun e => by cases e⟩ ?_ ?_
    · rintro i H' hi ⟨hz, _⟩
      obtain rfl : i = 0 := by omega
      obtain rfl := hz rfl
      refine ⟨rfl, _, rfl, _, rfl, a, ns, _, rfl, (same_upd hD).seq hS, by decide, by decide, fun p H2 s2 np h2 => ?_⟩
      have nDp : D ≠ p := ne_of_none upd_same np
      have eD : H2 D = some (.lst []) := s2 _ _ upd_same
      refine ⟨[], eD, by decide, fun e => (by cases e), fun _ => ⟨p, fun b o q => ?_, (same_upd hD).free np, nDp, upd_same, ?_⟩⟩
      · rw [upd_ne (ne_of_none q hD)]
        exact s2 _ _ (same_upd hD _ _ q)
      · obtain ⟨p0, p1, p2, p3, hp, r⟩ := h2
        exact ⟨p0, p1, p2, p3, by rw [upd_ne nDp.symm]; exact hp, r⟩
    · rintro H' ⟨_, hz⟩
      obtain ⟨p, s1, np, nDp, eD, hp⟩ := hz rfl
      exact k D p H' s1 hD np nDp eD hp
/-! ### what is drawn -/
def spOneOf : Sp := fun vs H Q _ => ∃ (a L : Addr) (n : Nat) (xs : List V), vs = [.ref a, .ref L] ∧ PurseAt H a n ∧ n ≤ 1000000000000 ∧ L ≠ a ∧ H L = some (.lst xs) ∧ 1 ≤ xs.length ∧ xs.length < 1048576 ∧
  ∀ (i : Nat) (x : V) (H' : Hp), xs[i]? = some x → (∀ b, b ≠ a → H' b = H b) → PurseAt H' a (n + 1) → Q x H'
theorem ok_oneOf {f fd_ fm : Addr} {fd fdd fdm : FuncData} (T : Top K mg "_law_one_of" sLOneOf ["purse", "some"] f fd) (TD : Top K mg "_law_draw" sLDraw ["purse", "many"] fd_ fdd)
    (TM : Top K mg "_law_mixed" sLMixed ["seed", "spin", "at"] fm fdm) (B : Blt mg) : FnOk P w K mg base CX0 3 f fd ["purse", "some"] spOneOf := by
  have GD : FnOk P w K mg base CX0 2 fd_ fdd ["purse", "many"] spDraw := ok_draw TD TM B
  refine T.F.ok scLOneOf (fun vs H Q E h => ?_) (fun cdv A outer s H vs Q E hr h => ?_)
  · obtain ⟨_, _, _, _, rfl, _⟩ := h
    rfl
  · obtain ⟨a, L, n, xs, rfl, hp, hn, nLa, hL, h1, h2, k⟩ := h
    refine ⟨_, pss_one (ps_ret (pe_ix ix_list (pv 1) (pe_call GD hr rfl TD.g TD.F.kp TD.b .nil pass0 (pa_cons (pv 0) (pa_cons (pe_callB call_len_seq (by rfl) B.len PySem.boot_len (pa_cons (pv 1) pa_nil)) pa_nil))) (fun _ _ => rfl))), ?_⟩
    refine ⟨_, rfl, _, rfl, _, rfl, L, _, rfl, .inl (SqL.of hL), a, n, _, rfl, hp, hn, by omega, by omega, fun d H' d0 d1 off hp' => ?_⟩
    obtain ⟨j, rfl⟩ := Int.eq_ofNat_of_zero_le d0
    have hj : j < xs.length := by omega
    refine ⟨L, xs, _, xs[j], rfl, rfl, SqL.of (by rw [off L nLa]; exact hL), atI_nat (by simp [hj]), ?_⟩
    exact k j _ H' (by simp [hj]) off hp'
/-- a word: one to eight letters -/
def IsW (z : Str) : Prop := 1 ≤ z.length ∧ z.length ≤ 8 ∧ ∀ c ∈ z.cps.toList, 97 ≤ c ∧ c ≤ 122
def abc : Str := "abcdefghijklmnopqrstuvwxyz"
theorem abc_at : ∀ j : Nat, j < 26 → abc.cps.toList[j]? = some (97 + j) := by decide +kernel
/-- the heap is kept but at a -/
def KeepBut (a : Addr) (H H' : Hp) : Prop := ∀ b o, H b = some o → b ≠ a → H' b = some o
theorem KeepBut.refl (a : Addr) (H : Hp) : KeepBut a H H := fun _ _ e _ => e
theorem KeepBut.trans {a : Addr} {H H1 H2 : Hp} (h : KeepBut a H H1) (h' : KeepBut a H1 H2) : KeepBut a H H2 := fun b o e n => h' b o (h b o e n) n
theorem KeepBut.of_same {a : Addr} {H H' : Hp} (h : Same H H') : KeepBut a H H' := fun b o e _ => h b o e
theorem KeepBut.of_off {a : Addr} {H H' : Hp} (h : ∀ b, b ≠ a → H' b = H b) : KeepBut a H H' := fun b o e n => by rw [h b n]; exact e
theorem KeepBut.free {a b : Addr} {H H' : Hp} (h : KeepBut a H H') (n : H' b = none) (hb : b ≠ a) : H b = none := by
  cases e : H b with
  | none => rfl
  | some o =>
    rw [h b o e hb] at n
    cases n
def spWord : Sp := fun vs H Q _ => ∃ (a : Addr) (n : Nat), vs = [.ref a] ∧ PurseAt H a n ∧ n ≤ 900000000000 ∧ ∀ (z : Str) (H' : Hp), IsW z → KeepBut a H H' → PurseAt H' a (n + 10) → Q (.str z) H'
theorem join_signs : ∀ cs : List Nat, joinL [] (cs.map fun c => [c]) = cs
  | [] => rfl
  | [c] => rfl
  | c :: d :: r => by
    show [c] ++ ([] ++ joinL [] ((d :: r).map fun c => [c])) = c :: d :: r
    rw [join_signs (d :: r)]
    rfl
theorem word_of (cs : List Nat) : (Txt.join ("" : Str) (cs.map fun c => (⟨#[c]⟩ : Str))).cps.toList = cs := by
  rw [TL.join_eq]
  show tl (Str.join "" (cs.map fun c => (⟨#[c]⟩ : Str))) = cs
  rw [tl_join, List.map_map]
  exact join_signs cs
theorem isW_of {cs : List Nat} (h1 : 1 ≤ cs.length) (h2 : cs.length ≤ 8) (h : ∀ c ∈ cs, 97 ≤ c ∧ c ≤ 122) : IsW (Txt.join ("" : Str) (cs.map fun c => (⟨#[c]⟩ : Str))) := by
  have e := word_of cs
  have l : (Txt.join ("" : Str) (cs.map fun c => (⟨#[c]⟩ : Str))).length = cs.length := by
    rw [← congrArg List.length e]
    exact Array.length_toList.symm
  exact ⟨by omega, by omega, by rw [e]; exact h⟩
theorem sum_ones : ∀ cs : List Nat, ((cs.map fun c => (⟨#[c]⟩ : Str)).map (·.length)).sum = cs.length
  | [] => rfl
  | c :: r => by
    show 1 + ((r.map fun c => (⟨#[c]⟩ : Str)).map (·.length)).sum = r.length + 1
    rw [sum_ones r]
    omega
theorem ok_word {f fd_ fm : Addr} {fd fdd fdm : FuncData} (T : Top K mg "_law_word" sLWord ["purse"] f fd) (TD : Top K mg "_law_draw" sLDraw ["purse", "many"] fd_ fdd)
    (TM : Top K mg "_law_mixed" sLMixed ["seed", "spin", "at"] fm fdm) (B : Blt mg) : FnOk P w K mg base CX0 3 f fd ["purse"] spWord := by
  have GD : FnOk P w K mg base CX0 2 fd_ fdd ["purse", "many"] spDraw := ok_draw TD TM B
  refine T.F.ok scLWord (fun vs H Q E h => ?_) (fun cdv A outer s H vs Q E hr h => ?_)
  · obtain ⟨_, _, rfl, _⟩ := h
    rfl
  · obtain ⟨a, n, rfl, hp, hn, k⟩ := h
    refine ⟨_, (pss_cons (ps_set (i := 1) scLWord.nd rfl (Or.inl rfl) (pe_op op_add pe_int (pe_call GD hr rfl TD.g TD.F.kp TD.b .nil pass0 (pa_cons (pv 0) (pa_cons (pe_ifExp (pt_cmpR op_eq (pe_call GD hr rfl TD.g TD.F.kp TD.b .nil pass0 (pa_cons (pv 0) (pa_cons pe_int pa_nil))) pe_int (nomark _)) pe_int pe_int) pa_nil)))))
      (pss_one (ps_ret (pe_join pe_str (pe_lc (own := [("spin", 2)]) (g := gName 2) (tt := tYes) rfl scLWord.nd (pi_range1 (by rfl) B.range (pa_cons (pv 1) pa_nil))
        (blkOk_by (N := ["purse", "size", "spin"]) (sc := defScope sLWord) (by decide +kernel)) (fun _ _ _ _ _ => pg_name (i := 2) scLWord.nd rfl (Or.inl rfl)) (fun _ _ _ _ _ => pts_nil)
        (fun _ _ _ _ _ => pe_ix ix_str pe_str (pe_call GD hr rfl TD.g TD.F.kp TD.b .nil pass0 (pa_cons (pv 0) (pa_cons pe_int pa_nil))) (fun _ _ => rfl))))))), ?_⟩
    refine ⟨_, rfl, _, rfl, a, n, _, rfl, hp, by omega, by decide, by decide, fun d1 H1 c0 c1 off1 hp1 => ⟨rfl, _, rfl, ?_⟩⟩
    refine ite2 (fun _ => ?_) (fun _ => ?_)
    all_goals
      refine ⟨a, n + 1, _, rfl, hp1, by omega, by decide, by decide, fun d2 H2 e0 e1 off2 hp2 => ?_⟩
      have e8 : d2 < 8 := by omega
      have kb : KeepBut a H H2 := (KeepBut.of_off off1).trans (.of_off off2)
      refine ⟨_, _, rfl, rfl, ⟨_, rfl⟩, _, rfl, _, rfl, by omega, by omega, fun D hD => ?_⟩
      have nDa : D ≠ a := by
        obtain ⟨_, _, _, _, e, _⟩ := hp2
        exact (ne_of_none e hD).symm
      refine lc_range (lo := 0) (n := (1 + d2).toNat) (fun i H' => KeepBut a H H' ∧ PurseAt H' a (n + 2 + i) ∧ ∃ cs : List Nat, H' D = some (.lst (cs.map fun c => V.str ⟨#[c]⟩)) ∧ cs.length = i ∧ ∀ c ∈ cs, 97 ≤ c ∧ c ≤ 122)
        ⟨fun b o q hb => ?_, ?_, [], upd_same, rfl, fun c hc => nomatch hc⟩ ?_ ?_
      · rw [upd_ne (ne_of_none (kb b o q hb) hD)]
        exact kb b o q hb
      · obtain ⟨p0, p1, p2, p3, q, r⟩ := hp2
        exact ⟨p0, p1, p2, p3, by rw [upd_ne nDa.symm]; exact q, r⟩
      · rintro i H' hi ⟨kb', hp', cs, eD, el, hc⟩
        have hi8 : i < 8 := by omega
        refine ⟨rfl, _, rfl, a, n + 2 + i, 26, rfl, hp', by omega, by decide, by decide, fun d3 H3 g0 g1 off3 hp3 => ?_⟩
        obtain ⟨j, rfl⟩ := Int.eq_ofNat_of_zero_le g0
        have hj : j < 26 := by omega
        refine ⟨abc, _, _, rfl, rfl, by decide, atI_nat (abc_at j hj), _, (by rw [off3 D nDa]; exact eD), ?_, ?_, ?_, cs ++ [97 + j], ?_, ?_, ?_⟩
        · rw [List.length_map, sizeLine_eq]
          omega
        · intro b o q hb
          have q1 : H3 b = some o := by
            rw [off3 b hb]
            exact kb' b o q hb
          rw [upd_ne ?_]
          · exact q1
          · rintro rfl
            have q2 := kb b o q hb
            rw [hD] at q2
            cases q2
        · obtain ⟨p0, p1, p2, p3, q, r⟩ := hp3
          exact ⟨p0, p1, p2, p3, by rw [upd_ne nDa.symm]; exact q, r⟩
        · rw [upd_same, List.map_append]
          rfl
        · rw [List.length_append, el]
          rfl
        · intro c hc'
          rcases List.mem_append.mp hc' with q | q
          · exact hc c q
          · have q' := List.mem_singleton.mp q
            omega
      · rintro H' ⟨kb', hp', cs, eD, el, hc⟩
        have hl : cs.length = (1 + d2).toNat := el
        refine ⟨_, D, cs.map fun c => (⟨#[c]⟩ : Str), rfl, rfl, .inl (SqL.of (by rw [eD, List.map_map]; rfl)), ?_, ?_⟩
        · rw [sum_ones, List.length_map]
          show cs.length + cs.length * 0 ≤ 16777216
          omega
        · refine k _ H' (isW_of (by omega) (by omega) hc) kb' ?_
          obtain ⟨p0, p1, p2, p3, q, r1, r2, r3, r4, r5, r6⟩ := hp'
          exact ⟨p0, p1, p2, p3, q, r1, r2, r3, r4, by omega, r6⟩
end
end V1

namespace V1
open PySem PySem.Spec PyProof.Rows L2
open PySem.W (Frag)
/-! ### types as data -/
inductive Sg | ov | th | un
  deriving DecidableEq
def Sg.str : Sg → Str
  | .ov => "over"
  | .th => "then"
  | .un => "under"
inductive Ty | w (z : Str) | n (g : Sg) (a b : Ty)
  deriving DecidableEq
inductive TyAt (H : Hp) : V → Ty → Prop
  | w {z : Str} : IsW z → TyAt H (.str z) (.w z)
  | n {p : Addr} {g : Sg} {x y : V} {a b : Ty} : H p = some (.tup [.str g.str, x, y]) → TyAt H x a → TyAt H y b → TyAt H (.ref p) (.n g a b)
/-- what is laid as a tuple stays -/
def TK (H H' : Hp) : Prop := ∀ p xs, H p = some (.tup xs) → H' p = some (.tup xs)
theorem TK.refl (H : Hp) : TK H H := fun _ _ e => e
theorem TK.trans {H H1 H2 : Hp} (h : TK H H1) (h' : TK H1 H2) : TK H H2 := fun p xs e => h' p xs (h p xs e)
theorem TK.of_same {H H' : Hp} (h : Same H H') : TK H H' := fun p xs e => h p _ e
theorem TK.upd_new {H : Hp} {a : Addr} {o : HO} (h : H a = none) : TK H (upd H a o) := TK.of_same (same_upd h)
theorem TK.upd_lst {H : Hp} {a : Addr} {xs ys : List V} (h : H a = some (.lst xs)) : TK H (upd H a (.lst ys)) := fun p zs e => by
  by_cases c : p = a
  · rw [c, h] at e
    cases e
  · rw [upd_ne c]
    exact e
theorem TyAt.mono {H H' : Hp} (k : TK H H') {v : V} {t : Ty} (h : TyAt H v t) : TyAt H' v t := by
  induction h with
  | w h => exact .w h
  | n e _ _ i1 i2 => exact .n (k _ _ e) i1 i2
def Ty.signs : Ty → Nat
  | .w _ => 0
  | .n _ a b => 1 + a.signs + b.signs
def Ty.size : Ty → Nat
  | .w _ => 1
  | .n _ a b => 1 + a.size + b.size
theorem Ty.size_signs (t : Ty) : t.size = 2 * t.signs + 1 := by
  induction t with
  | w _ => rfl
  | n g a b i j => simp only [Ty.size, Ty.signs]; omega
/-- the written names of the modules -/
structure Gbl (K : Frag) (mg : Str → Option Value) : Prop where
  letters : ∃ t, mg "_LETTERS" = some (.str abc t)
  signs : ∃ a, mg "_SIGNS" = some (.ref a) ∧ SqT K (fun _ => none) a [.str "over", .str "then", .str "under"]
theorem sqT_any {K : Frag} {a : Addr} {xs : List V} {H : Hp} (h : SqT K (fun _ => none) a xs) : SqT K H a xs := by
  rcases h with h | h
  · rcases h with h | ⟨o, h⟩
    · cases h
    · cases h
  · exact .inr h
section
variable {P : Program} {w : World} {K : Frag} {mg : Str → Option Value} {base : Heap}
/-! ### words -/
def spIsWord : Sp := fun vs H Q _ => ∃ z, vs = [.str z] ∧ IsW z ∧ ∀ H', Same H H' → Q (.bl true) H'
theorem abc_mem {c : Nat} (h1 : 97 ≤ c) (h2 : c ≤ 122) : c ∈ abc.cps.toList := by
  obtain ⟨j, rfl⟩ : ∃ j, c = 97 + j := ⟨c - 97, by omega⟩
  exact List.mem_of_getElem? (abc_at j (by omega))
theorem ok_isWord {f : Addr} {fd : FuncData} (T : Top K mg "is_word" sIsWord pIsWord f fd) (B : Blt mg) (G : Gbl K mg) : FnOk P w K mg base CX0 1 f fd pIsWord spIsWord := by
  obtain ⟨tl, gl⟩ := G.letters
  refine T.F.ok scIsWord (fun vs H Q E h => ?_) (fun cdv A outer s H vs Q E hr h => ?_)
  · obtain ⟨_, rfl, _⟩ := h
    rfl
  · obtain ⟨z, rfl, ⟨z1, z2, z3⟩, k⟩ := h
    refine ⟨_, (pss_cons (ps_if (PW.pt (pw_or (pt_not (pt_val (pe_callB call_isi (by rfl) B.isi (by decide +kernel) (pa_cons (pv 0) (pa_cons (pe_bltn (v := .ty "str") (by rfl) B.str_ (by decide +kernel) rfl) pa_nil))))) (pw_or1 (pt_not (pt_chain op_le op_le pe_int (pe_callB call_len_str (by rfl) B.len PySem.boot_len (pa_cons (pv 0) pa_nil)) pe_int))))) (pss_one (ps_ret pe_bl)) pss_nil)
      (pss_one (ps_ret (pe_callB (cr_all rfl) (by rfl) B.all (by decide +kernel) (pa_cons (pe_lc (own := [("letter", 1)]) (g := gName 1) (tt := tYes) rfl scIsWord.nd (pi_str (pv 0)) (blkOk_by (N := nIsWord) (sc := defScope sIsWord) (by decide +kernel)) (fun _ _ _ _ _ => pg_name (i := 1) scIsWord.nd rfl (Or.inl rfl)) (fun _ _ _ _ _ => pts_nil) (fun _ _ _ _ _ => (pe_cmpR op_in_sign (pv 1) (pe_glob (v := .str abc) rfl gl ⟨tl, rfl⟩) (by rfl)))) pa_nil))))), ?_⟩
    refine ⟨_, rfl, _, _, _, _, true, rfl, .ty "str", .base (.str z), kit_ty (by decide +kernel), true, rfl, iteF ?_⟩
    refine ⟨_, rfl, _, rfl, by rw [sizeLine_eq]; omega, _, _, rfl, rfl, true, congrArg V.bl (decide_eq_true (by omega)), iteT ⟨_, _, rfl, rfl, true, congrArg V.bl (decide_eq_true (by omega)), iteF ?_⟩⟩
    refine ⟨_, rfl, _, rfl, fun D hD => ?_⟩
    refine lc_it walk_str (fun i H' => H' = upd H D (.lst (List.replicate i (.bl true)))) rfl (fun _ _ _ _ => trivial) ?_ ?_
    · rintro i x H' H2 hi rfl ⟨rfl, c, hc, rfl⟩
      have hm : c ∈ z.cps.toList := Array.mem_toList_iff.mpr (Array.mem_of_getElem? hc)
      refine ⟨rfl, _, rfl, c, abc, rfl, rfl, _, upd_same, ?_, ?_⟩
      · rw [List.length_replicate, sizeLine_eq]
        have : z.cps.size ≤ 8 := z2
        omega
      · rw [upd_upd, decide_eq_true (abc_mem (z3 c hm).1 (z3 c hm).2), ← List.replicate_succ']
    · rintro H' rfl
      refine ⟨_, List.replicate z.cps.size true, rfl, SqL.of (by rw [upd_same, List.map_replicate]), ?_⟩
      have e : (List.replicate z.cps.size true).all id = true := by
        rw [List.all_eq_true]
        intro b hb
        exact (List.mem_replicate.mp hb).2
      rw [e]
      exact k _ (same_upd hD)
/-! ### signs -/
def Ty.node : Ty → Bool
  | .w _ => false
  | .n _ _ _ => true
def spIsSigned : Sp := fun vs H Q _ => ∃ v t, vs = [v] ∧ TyAt H v t ∧ Q (.bl t.node) H
theorem ok_isSigned {f : Addr} {fd : FuncData} (T : Top K mg "_is_signed" sIsSigned pIsSigned f fd) (B : Blt mg) (G : Gbl K mg) : FnOk P w K mg base CX0 1 f fd pIsSigned spIsSigned := by
  obtain ⟨sa, gs, hs⟩ := G.signs
  refine T.F.ok scIsSigned (fun vs H Q E h => ?_) (fun cdv A outer s H vs Q E hr h => ?_)
  · obtain ⟨_, _, rfl, _⟩ := h
    rfl
  · obtain ⟨v, t, rfl, ht, k⟩ := h
    refine ⟨_, pss_one (ps_ret (pe_and (pe_callB call_isi (by rfl) B.isi (by decide +kernel) (pa_cons (pv 0) (pa_cons (pe_bltn (v := .ty "tuple") (by rfl) B.tuple (by decide +kernel) rfl) pa_nil))) (pe_and (pe_cmpR op_eq (pe_callB call_len_seq (by rfl) B.len PySem.boot_len (pa_cons (pv 0) pa_nil)) pe_int (nomark _)) (pe_one (pe_cmpR op_in_seq (pe_ix ix_tup (pv 0) pe_int (fun _ _ => rfl)) (pe_glob (v := .ref sa) rfl gs rfl) (by rfl)))))), ?_⟩
    cases ht with
    | @w z h => exact ⟨_, rfl, _, _, _, _, false, rfl, .ty "tuple", .base (.str z), kit_ty (by decide +kernel), false, rfl, k⟩
    | @n p g x y a b e h1 h2 =>
      refine ⟨_, rfl, _, _, _, _, true, rfl, .ty "tuple", .base (.tup e), kit_ty (by decide +kernel), true, rfl, ?_⟩
      refine ⟨_, rfl, p, _, rfl, .inr (SqT.of e), rfl, true, rfl, ?_⟩
      refine ⟨_, rfl, p, _, _, _, rfl, rfl, SqT.of e, atI_nat (j := 0) rfl, sa, _, rfl, .inr (sqT_any hs), rfl, rfl, ?_⟩
      cases g <;> exact k
end
end V1

namespace V1
open PySem PySem.Spec PyProof.Rows L2
open PySem.W (Frag)
/-- a list of types -/
inductive Tys (H : Hp) : List V → List Ty → Prop
  | nil : Tys H [] []
  | cons {v : V} {t : Ty} {vs : List V} {ts : List Ty} : TyAt H v t → Tys H vs ts → Tys H (v :: vs) (t :: ts)
theorem Tys.mono {H H' : Hp} (k : TK H H') {vs : List V} {ts : List Ty} (h : Tys H vs ts) : Tys H' vs ts := by
  induction h with
  | nil => exact .nil
  | cons h _ ih => exact .cons (h.mono k) ih
theorem Tys.length {H : Hp} {vs : List V} {ts : List Ty} (h : Tys H vs ts) : vs.length = ts.length := by
  induction h with
  | nil => rfl
  | cons _ _ ih => simp [ih]
theorem Tys.append {H : Hp} {vs us : List V} {ts rs : List Ty} (h : Tys H vs ts) (h' : Tys H us rs) : Tys H (vs ++ us) (ts ++ rs) := by
  induction h with
  | nil => exact h'
  | cons h _ ih => exact .cons h ih
theorem Tys.at_ {H : Hp} {vs : List V} {ts : List Ty} (h : Tys H vs ts) : ∀ {i : Nat} {v : V}, vs[i]? = some v → ∃ t, ts[i]? = some t ∧ TyAt H v t := by
  induction h with
  | nil => intro i v e; simp at e
  | cons h _ ih =>
    intro i v e
    cases i with
    | zero =>
      simp at e
      subst e
      exact ⟨_, rfl, h⟩
    | succ i => exact ih (by simpa using e)
def sizes : List Ty → Nat
  | [] => 0
  | t :: r => t.size + sizes r
theorem Ty.size_pos (t : Ty) : 1 ≤ t.size := by
  cases t <;> simp [Ty.size]; omega
theorem sizes_len : ∀ ts : List Ty, ts.length ≤ sizes ts
  | [] => Nat.le_refl _
  | t :: r => by
    have := sizes_len r
    have := t.size_pos
    simp only [List.length_cons, sizes]
    omega
theorem same_over {H0 H : Hp} {W : Addr} {o : HO} (s : Same H0 H) (n : H0 W = none) : Same H0 (upd H W o) := fun b u e => by
  rw [upd_ne (ne_of_none e n)]
  exact s b u e
/-- the parts of a type, as nodes go through them -/
def Ty.parts : Ty → List Ty
  | .w _ => []
  | .n _ a b => [a, b]
theorem cut_not : ¬ (HT.sIx 3 0 (some 1) = 0 ∧ HT.sIx 3 3 none = 3) := by decide +kernel
section
variable {P : Program} {w : World} {K : Frag} {mg : Str → Option Value} {base : Heap}
def spIsKind : Sp := fun vs H Q _ => ∃ v t, vs = [v] ∧ TyAt H v t ∧ t.size ≤ 1000000 ∧ ∀ H', Same H H' → Q (.bl true) H'
theorem ok_isKind {f fs fw : Addr} {fd fds fdw : FuncData} (T : Top K mg "is_kind" sIsKind pIsKind f fd) (TS : Top K mg "_is_signed" sIsSigned pIsSigned fs fds) (TW : Top K mg "is_word" sIsWord pIsWord fw fdw) (B : Blt mg) (G : Gbl K mg) :
    FnOk P w K mg base CX0 2 f fd pIsKind spIsKind := by
  have GS : FnOk P w K mg base CX0 1 fs fds pIsSigned spIsSigned := ok_isSigned TS B G
  have GW : FnOk P w K mg base CX0 1 fw fdw pIsWord spIsWord := ok_isWord TW B G
  refine T.F.ok scIsKind (fun vs H Q E h => ?_) (fun cdv A outer s H vs Q E hr h => ?_)
  · obtain ⟨_, _, rfl, _⟩ := h
    rfl
  · obtain ⟨v, t, rfl, ht, hz, k⟩ := h
    refine ⟨_, (pss_cons (ps_set (i := 1) scIsKind.nd rfl (Or.inl rfl) (pe_lst (pa_cons (pv 0) pa_nil)))
      (pss_cons (ps_while PassesOwn.never (pt_truth (pv 1) (by intro _; rfl))
        (pss_cons (ps_set (i := 2) scIsKind.nd rfl (Or.inl rfl) (pe_bm0 PySem.F.plainAttrs_list PySem.F.slot_list_pop PySem.F.type_list_pop mt_pop (pv 1)))
      (pss_one (ps_if (pt_val (pe_call GS hr rfl TS.g TS.F.kp TS.b .nil pass0 (pa_cons (pv 2) pa_nil))) (pss_one (ps_expr (pe_bm PySem.F.plainAttrs_list PySem.F.slot_list_extend PySem.F.type_list_extend KT.mt_extT (pv 1) (pa_cons (pe_slice sl_tup (pv 2) (po_some pe_int) po_none) pa_nil))))
            (pss_one (ps_if (pt_not (pt_val (pe_call GW hr rfl TW.g TW.F.kp TW.b .nil pass0 (pa_cons (pv 2) pa_nil)))) (pss_one (ps_ret pe_bl)) pss_nil))))))
      (pss_one (ps_ret pe_bl)))), ?_⟩
    refine ⟨v, rfl, by show 1 ≤ sizeLine; rw [sizeLine_eq]; omega, fun W hW => ?_⟩
    refine ⟨fun m σ H' => ∃ (vs : List V) (ts : List Ty) (v2 : Option V), σ = [some v, some (.ref W), v2] ∧ H' W = some (.lst vs.reverse) ∧ Tys H' vs ts ∧ sizes ts = m ∧ m ≤ 1000000 ∧ Same H H', ⟨t.size, [v], [t], none, rfl, upd_same, .cons (ht.mono (TK.upd_new hW)) .nil, rfl, hz, same_upd hW⟩, ?_⟩
    rintro m σ H1 ⟨vs, ts, v2, rfl, hL, hT, rfl, hm, hs⟩
    refine ⟨_, rfl, _, .inl ⟨_, SqL.of hL, rfl⟩, ?_⟩
    cases hT with
    | nil => exact iteF (k H1 hs)
    | @cons y u vs ts h1 h2 =>
      have el : (y :: vs).reverse = vs.reverse ++ [y] := List.reverse_cons
      have c : (!(y :: vs).reverse.isEmpty) = true := by rw [el]; simp
      rw [c]
      refine iteT ⟨fun σ' H' => ∃ m' < sizes (u :: ts), ∃ (vs : List V) (ts : List Ty) (v2 : Option V), σ' = [some v, some (.ref W), v2] ∧ H' W = some (.lst vs.reverse) ∧ Tys H' vs ts ∧ sizes ts = m' ∧ m' ≤ 1000000 ∧ Same H H', fun σ' H' q => q, ?_⟩
      refine ⟨_, rfl, .inl ⟨rfl, _, SqL.of hL⟩, W, _, y, rfl, rfl, hL, by rw [el]; simp, ?_⟩
      have ed : (y :: vs).reverse.dropLast = vs.reverse := by rw [el]; simp
      rw [ed]
      have tk : TK H1 (upd H1 W (.lst vs.reverse)) := TK.upd_lst hL
      have hs' : Same H (upd H1 W (.lst vs.reverse)) := same_over hs hW
      refine ⟨y, rfl, y, u, rfl, h1.mono tk, _, rfl, ?_⟩
      cases h1 with
      | @w z hz =>
        refine iteF ⟨_, rfl, z, rfl, hz, fun H2 s2 => ⟨_, rfl, iteF ⟨sizes ts, ?_, vs, ts, _, rfl, s2 _ _ upd_same, h2.mono (tk.trans (TK.of_same s2)), rfl, ?_, hs'.trans s2⟩⟩⟩
        · show sizes ts < 1 + sizes ts
          omega
        · have : 1 + sizes ts ≤ 1000000 := hm
          omega
      | @n p g x1 x2 a b e k1 k2 =>
        refine iteT ⟨_, rfl, .inl ⟨rfl, _, SqL.of upd_same⟩, _, rfl, _, rfl, p, _, rfl, SqT.of (tk _ _ e), cut_not, fun p' hp => ?_⟩
        have np : W ≠ p' := ne_of_none upd_same hp
        refine ⟨W, p', _, _, rfl, rfl, by rw [upd_ne np, upd_same], SqT.of upd_same, ?_, ?_⟩
        · have l1 := h2.length
          have l2 := sizes_len ts
          show vs.reverse.length + 2 ≤ sizeLine
          rw [List.length_reverse, sizeLine_eq]
          have : (1 + a.size + b.size) + sizes ts ≤ 1000000 := hm
          omega
        · have hp1 : H1 p' = none := by
            rw [upd_ne np.symm] at hp
            exact hp
          have tk2 : TK H1 (upd (upd (upd H1 W (.lst vs.reverse)) p' (.tup [x1, x2])) W (.lst (vs.reverse ++ [x1, x2]))) := (tk.trans (TK.upd_new hp)).trans (TK.upd_lst (by rw [upd_ne np, upd_same]))
          have tk3 : TK H1 (upd (upd H1 W (.lst vs.reverse)) p' (.tup [x1, x2])) := tk.trans (TK.upd_new hp)
          refine ⟨b.size + (a.size + sizes ts), ?_, x2 :: x1 :: vs, b :: a :: ts, _, rfl, ?_, .cons (k2.mono tk2) (.cons (k1.mono tk2) (h2.mono tk2)), rfl, ?_, ?_⟩
          · show _ < (1 + a.size + b.size) + sizes ts
            omega
          · rw [upd_same]
            simp
            rfl
          · have : (1 + a.size + b.size) + sizes ts ≤ 1000000 := hm
            omega
          · exact same_over (hs'.trans (same_upd hp)) hW
end
end V1

/-! Functions as values: what may be called, and what must stand for it. -/
namespace KT
open PySem PySem.Spec PyProof.Rows L2 NdefX LamX
/-- objects that nobody tracks (captured cells) -/
abbrev Pins := List (Addr × Obj)
/-- function and code objects that are tracked -/
abbrev Exts := List (Addr × HO)
def Dep (D : Pins) (outer : List Env) (s : Shared) (H : Hp) : Prop := ∀ p ∈ D, s.heap.get? p.1 = some p.2 ∧ H p.1 = none ∧ p.1 ∉ frs outer
def ExOk (EX : Exts) (H : Hp) : Prop := ∀ p ∈ EX, H p.1 = some p.2
theorem Dep.nil {outer : List Env} {s : Shared} {H : Hp} : Dep [] outer s H := fun p hp => absurd hp (by simp)
theorem Dep.app {D D' : Pins} {outer : List Env} {s : Shared} {H : Hp} (h : Dep D outer s H) (h' : Dep D' outer s H) : Dep (D ++ D') outer s H := fun p hp => (List.mem_append.mp hp).elim (h p) (h' p)
theorem Dep.left {D D' : Pins} {outer : List Env} {s : Shared} {H : Hp} (h : Dep (D ++ D') outer s H) : Dep D outer s H := fun p hp => h p (List.mem_append.mpr (.inl hp))
theorem Dep.right {D D' : Pins} {outer : List Env} {s : Shared} {H : Hp} (h : Dep (D ++ D') outer s H) : Dep D' outer s H := fun p hp => h p (List.mem_append.mpr (.inr hp))
theorem Dep.go {X : Cx} {pins : List (Addr × Obj)} {σ : L2.St} {H : Hp} {s : Shared} {D : Pins} (hx : X.ex = []) (d : Dep D X.outer X.s_0 X.H_0) (I : Inv X pins σ H s) : Dep D X.stack s H := fun p hp => by
  obtain ⟨h1, h2, h3⟩ := d p hp
  have ne : p.1 ∉ X.ex := by rw [hx]; simp
  refine ⟨I.base.keep _ _ h1 h2 h3 ne, I.base.free _ _ h1 h2 ne, fun z => ?_⟩
  rcases List.mem_cons.mp (I.stkSub _ z) with e | e
  · have a := I.ok.above
    rw [← e] at a
    exact absurd (Heap.lt_size h1) (Nat.not_lt.mpr a)
  · exact h3 e
/-- f may be called by whoever keeps D and EX -/
structure Callee (P : Program) (w : World) (K : PySem.W.Frag) (mg : Str → Option Value) (base : Heap) (k : Nat) (f : Addr) (sp : Sp) (D : Pins) (EX : Exts) : Prop where
  run : ∀ (A : Around) (outer : List Env) (s : Shared) (H : Hp) (us : List Value) (vs : List V) (Q : VK), Room k A → Env0 P w K mg base A outer s H → Dep D outer s H → ExOk EX H → Vals vs us → sp vs H Q L2.E0 →
    codeAny (model P w) A (.call (.ref f) ⟨us, []⟩) (CR L2.CX0 outer P w H s Q L2.E0) s
  at_ : ∀ (h : Heap) (H : Hp), K.In h → HOk P w H h → ExOk EX H → PySem.W.FnAt f h
theorem Callee.mono {P : Program} {w : World} {K : PySem.W.Frag} {mg : Str → Option Value} {base : Heap} {k j : Nat} {f : Addr} {sp : Sp} {D D' : Pins} {EX EX' : Exts} (C : Callee P w K mg base k f sp D EX) (hk : k ≤ j) (hD : ∀ p ∈ D, p ∈ D') (hE : ∀ p ∈ EX, p ∈ EX') : Callee P w K mg base j f sp D' EX' :=
  ⟨fun A outer s H us vs Q hr e0 d x r q => C.run A outer s H us vs Q (hr.mono hk) e0 (fun p hp => d p (hD p hp)) (fun p hp => x p (hE p hp)) r q, fun h H a b c => C.at_ h H a b fun p hp => c p (hE p hp)⟩
theorem Callee.imp {P : Program} {w : World} {K : PySem.W.Frag} {mg : Str → Option Value} {base : Heap} {k : Nat} {f : Addr} {sp sp' : Sp} {D : Pins} {EX : Exts} (C : Callee P w K mg base k f sp D EX) (h : ∀ vs H Q, sp' vs H Q L2.E0 → sp vs H Q L2.E0) : Callee P w K mg base k f sp' D EX :=
  ⟨fun A outer s H us vs Q hr e0 d x r q => C.run A outer s H us vs Q hr e0 d x r (h _ _ _ q), C.at_⟩
/-- a def of the top -/
theorem callee_top {P : Program} {w : World} {K : PySem.W.Frag} {mg : Str → Option Value} {base : Heap} {k : Nat} {f : Addr} {fd : FuncData} {x q : Str} {st : Stmt} {ps : List Str} {sp : Sp} (F : FnOk P w K mg base L2.CX0 k f fd ps sp) (T : Fun K x q st f fd) (b : L2.Binds K fd ps []) : Callee P w K mg base k f sp [] [] where
  run := fun A outer s H us vs Q hr e0 _ _ r h => by
    have KX : K.In s.heap := e0.mod.kin.keeps fun b o e => (e0.bs b o e).1
    have hl : (us ++ []).length = ps.length := by
      rw [List.append_nil, ← r.length]
      exact F.len _ _ _ _ h
    have hb := b s us KX hl
    rw [List.append_nil] at hb
    exact F.run A outer s H ⟨us, []⟩ us vs Q L2.E0 hr e0 hb r h
  at_ := fun h H KX _ _ => by
    obtain ⟨oc, od, kV, doc, pm, an, cdv, ct, osl, rfl, lk, _⟩ := T.ex
    exact ⟨_, _, _, _, KX _ _ lk⟩
section
variable {X : Cx} {k i : Nat} {f : Addr} {sp : Sp} {D : Pins} {EX : Exts} {x : Str} {p pos : Pos} {e : Expr} {es : List Expr} {t : TA}
theorem run_callee {pins : List (Addr × Obj)} {σ : L2.St} {H : Hp} {s : Shared} {Q : VK} {us : List Value} {vs : List V} (C : Callee X.prog X.w X.K X.mg X.base k f sp D EX) (hr : Room k X.A) (d : Dep D X.stack s H) (x : ExOk EX H) (I : Inv X pins σ H s) (r : Vals vs us) (h : sp vs H Q L2.E0) :
    wpAny (model X.prog X.w) X.A (call (.ref f) us) (EP X pins σ Q) X.xe s := by
  refine wpAny_call (codeAny_mono (C.run X.A X.stack s H us vs Q hr I.env0 d x r h) fun q s' hq => ?_)
  match q, hq with
  | .error _, hq => exact False.elim hq
  | .ok (.ret _), hq => exact I.after hq
  | .ok .next, hq => exact False.elim hq
  | .ok .brk, hq => exact False.elim hq
  | .ok .cont, hq => exact False.elim hq
def tCallee (i : Nat) (f : Addr) (sp : Sp) (EX : Exts) (t : TA) : TE := fun σ H Q => σ[i]? = some (some (.ref f)) ∧ ExOk EX H ∧ t σ H fun vs H1 => ExOk EX H1 ∧ sp vs H1 Q L2.E0
/-- x(e, ..), x a name that holds f -/
theorem pe_callee (C : Callee X.prog X.w X.K X.mg X.base k f sp D EX) (hr : Room k X.A) (hx : X.ex = []) (d : Dep D X.outer X.s_0 X.H_0) (hN : X.N[i]? = some x) (hv : Vis X.env.scope x) (ha : PA X (e :: es) t)
    (hd : (x == ("__debug__" : Str)) = false := by decide) (hcd : (x == ("__classdict__" : Str)) = false := by decide)
    (he : starEach (e :: es) X.env = (false, eval e X.env) :: starEach es X.env := by rfl) (hpl : (backTo pos (starEach es X.env)).any (·.1) = false := by rfl) :
    PE X (.Call (.Name x p) (e :: es) [] pos) (tCallee i f sp EX t) := by
  refine ⟨fun pins s σ H Q I h => ?_⟩
  obtain ⟨hs, hE, ht⟩ := h
  refine wpAny_Call_Name_kw (thn ((pe_var (pos := p) hN hv hd hcd).run pins s σ H (fun v H1 => v = .ref f ∧ H1 = H) I ⟨.ref f, hs, rfl, rfl⟩) fun u s1 ⟨v, H1, I1, r1, q1⟩ => ?_)
  obtain ⟨ev, eH⟩ := q1
  subst ev
  rw [eH] at I1
  obtain rfl : u = Value.ref f := r1
  refine PySem.W.callWith_F (first := []) (C.at_ _ _ I1.kIn I1.hok hE) (thn (ha.run pos pins s1 σ H _ I1 ht) fun us s2 ⟨vs, H2, I2, r, h1, q⟩ => ⟨C.at_ _ _ I2.kIn I2.hok h1, ?_⟩) he hpl
  show wpAny _ _ (call (.ref f) us) _ _ _
  exact run_callee C hr (d.go hx I2) h1 I2 r q
end
/-! ### what is captured -/
/-- the cells of cl stand in D, with the values ws -/
structure CellD (D : Pins) (cl : List (Str × Addr)) (fr : List Str) (ws : List (Option V)) : Prop where
  len : ws.length = fr.length
  all : ∀ y c, cl.lookup y = some c → ∃ o v, (c, o) ∈ D ∧ o.data = .cell v
  inj : ∀ x y c, cl.lookup x = some c → cl.lookup y = some c → x = y
  has : ∀ (i : Nat) (y : Str), fr[i]? = some y → ∃ c, cl.lookup y = some c ∧ ∀ v, ws[i]? = some (some v) → ∃ u o, L2.RelV v u ∧ (c, o) ∈ D ∧ o.data = .cell (some u)
theorem CellD.at_ {D : Pins} {cl : List (Str × Addr)} {fr : List Str} {ws : List (Option V)} (C : CellD D cl fr ws) {outer : List Env} {s : Shared} {H : Hp} (d : Dep D outer s H) : CellsAt cl fr ws s.heap H where
  len := C.len
  all := fun y c e => by
    obtain ⟨o, v, hm, hd⟩ := C.all y c e
    obtain ⟨h1, h2, _⟩ := d _ hm
    exact ⟨h2, v, o, h1, hd⟩
  inj := C.inj
  has := fun i y e => by
    obtain ⟨c, hc, hv⟩ := C.has i y e
    refine ⟨c, hc, fun v ev => ?_⟩
    obtain ⟨u, o, r, hm, hd⟩ := hv v ev
    exact ⟨u, r, o, (d _ hm).1, hd⟩
theorem CellD.mono {D D' : Pins} {cl : List (Str × Addr)} {fr : List Str} {ws : List (Option V)} (C : CellD D cl fr ws) (h : ∀ p ∈ D, p ∈ D') : CellD D' cl fr ws :=
  ⟨C.len, fun y c e => by
    obtain ⟨o, v, hm, hd⟩ := C.all y c e
    exact ⟨o, v, h _ hm, hd⟩, C.inj, fun i y e => by
    obtain ⟨c, hc, hv⟩ := C.has i y e
    refine ⟨c, hc, fun v ev => ?_⟩
    obtain ⟨u, o, r, hm, hd⟩ := hv v ev
    exact ⟨u, o, r, h _ hm, hd⟩⟩
/-- the running def's own cells, as they stand -/
theorem own_cells {X : Cx} {pins : List (Addr × Obj)} {σ : L2.St} {H : Hp} {s : Shared} {cl : List (Str × Addr)} {fr : List Str} {js : List Nat} (I : Inv X pins σ H s) (hx : X.ex = []) (hfn : ∀ x, X.fn x = true) (c : Caps X cl fr js) :
    ∃ D, Dep D X.stack s H ∧ CellD D cl fr (js.map (slotAt σ)) := by
  have C := cells_of I c
  have mem : ∀ {y : Str} {a : Addr} {o : Obj}, cl.lookup y = some a → s.heap.get? a = some o → (a, o) ∈ cl.filterMap (fun p => (cl.lookup p.1).bind fun a => (s.heap.get? a).map fun o => (a, o)) := fun {y a o} e ho => by
    refine List.mem_filterMap.mpr ⟨(y, a), PySem.mem_of_lookup e, ?_⟩
    show (cl.lookup y).bind _ = _
    rw [e]
    show (s.heap.get? a).map _ = _
    rw [ho]
    rfl
  refine ⟨cl.filterMap fun p => (cl.lookup p.1).bind fun a => (s.heap.get? a).map fun o => (a, o), fun p hp => ?_, C.len, fun y a e => ?_, C.inj, fun i y e => ?_⟩
  · obtain ⟨⟨y, a0⟩, hm, e⟩ := List.mem_filterMap.mp hp
    obtain ⟨a, ha, e⟩ := Option.bind_eq_some_iff.mp e
    obtain ⟨o, ho, e⟩ := Option.map_eq_some_iff.mp e
    subst e
    have ha' : cl.lookup y = some a := ha
    have hX := c.sub y a ha'
    refine ⟨ho, (C.all y a ha').1, fun z => ?_⟩
    rcases List.mem_cons.mp (I.stkSub _ z) with e | e
    · exact I.cne y a hX e
    · obtain ⟨_, o', ho', _⟩ := I.ok.funs.mem e
      exact absurd (Heap.lt_size ho') (Nat.not_lt.mpr (I.ok.cab y a (hfn y) hX))
  · obtain ⟨_, v, o, ho, hd⟩ := C.all y a e
    exact ⟨o, v, mem e ho, hd⟩
  · obtain ⟨a, ha, hv⟩ := C.has i y e
    refine ⟨a, ha, fun v ev => ?_⟩
    obtain ⟨u, r, o, ho, hd⟩ := hv v ev
    exact ⟨u, o, r, mem ha ho, hd⟩
/-! ### functions made within defs -/
section
variable {P : Program} {w : World} {K : PySem.W.Frag} {mg : Str → Option Value} {base : Heap} {N ps fr : List Str} {ws : List (Option V)} {F : NF} {f : Addr} {k : Nat} {sp : Sp} {D : Pins} {EX : Exts}
/-- a def in a def -/
theorem callee_def (S : NScope N ps fr F.scope) (hb : ∀ (doc pm ctv : Value) (us : List Value), us.length = ps.length → bindArgs (F.fd doc pm ctv) ⟨us, []⟩ = pure (ps.zip us)) (len : ∀ vs H Q, sp vs H Q L2.E0 → vs.length = ps.length)
    (hf : (f, FnO f F) ∈ EX) (hc : (F.c, CodeO F.c F.qual) ∈ EX) (C : CellD D F.cl fr ws)
    (hbody : ∀ (A : Around) (outer : List Env) (s : Shared) (H : Hp) (vs : List V) (Q : VK), Room k (A.deeper (envF F f s.heap.objs.size)) → Dep D outer s H → ExOk EX H → sp vs H Q L2.E0 →
      ∃ t, PSs (ncx L2.CX0 P w K mg base N F f A outer s H L2.E0) F.body t ∧ t { nx := fun _ H' => Q .non H', rt := Q } (startF N vs ws) H) :
    Callee P w K mg base (k + 1) f sp D EX where
  at_ := fun h H _ hok x => by
    obtain ⟨od, sl, doc, pm, ctv, ho⟩ := fnO_at hok (x _ hf)
    exact ⟨_, od, _, sl, ho⟩
  run := fun A outer s H us vs Q hr e0 d x r hsp => by
    have hl := len _ _ _ hsp
    have lim : s.heap.NoLimit := e0.mod.nolimit.keeps fun b o e => (e0.bs b o e).1
    obtain ⟨od, sl, doc, pm, ctv, ho⟩ := fnO_at e0.hok (x _ hf)
    refine codeAny_call_function hr.depth ho rfl S.co S.gen rfl (codeO_at e0.hok (x _ hc)) ?_
    rw [hb doc pm ctv us (by rw [← r.length]; exact hl)]
    refine wpAny_pure (wpAny_newFunctionEnv S.nocell (fun ⟨n, _⟩ hy => S.par n (List.of_mem_zip hy).1) (fun h₁ hns hsb => ⟨lim.fresh _ hsb, ?_⟩) S.kind)
    show codeAny _ _ (.func F.body (envF F f s.heap.objs.size)) _ _
    refine codeAny_func ?_
    have kp : ∀ b o, s.heap.get? b = some o → h₁.get? b = some o := fun b o e => hsb.extBut b o (Nat.ne_of_lt (Heap.lt_size e)) (Heap.get?_push_of_some _ e)
    obtain ⟨t, ht, hq⟩ := hbody A outer s H vs Q (hr.deeper _) d x hsp
    have I : Inv (ncx L2.CX0 P w K mg base N F f A outer s H L2.E0) [] (startF N vs ws) H { s with heap := h₁, toks := s.toks + (ps.zip us).length } := inv_startN S hr.hd e0 hl r (C.at_ d) hns kp
    refine wpAny_mono (ht.run [] _ (startF N vs ws) H _ I hq) (fun fl s' hs => ?_) fun e s' hs => hs
    have fin : ∀ {σ' : L2.St} {H' : Hp} {v : V} {u : Value}, Inv (ncx L2.CX0 P w K mg base N F f A outer s H L2.E0) [] σ' H' s' → L2.RelV v u → Q v H' → CE outer P w H s Q u s' :=
      fun {σ' H' v u} J rv q => ⟨v, H', J.os, J.bare, J.base, J.hok, rv, q⟩
    match fl, hs with
    | .ret u, ⟨v, σ', H', J, rv, q⟩ => exact fin J rv q
    | .next, ⟨σ', H', J, q⟩ => exact fin (v := V.non) (u := Value.none) J rfl q
    | .brk, ⟨_, _, _, q⟩ => exact False.elim q
    | .cont, ⟨_, _, _, q⟩ => exact False.elim q
/-- the object at f is the lambda of these words -/
def LamO (f : Addr) (F : NF) (body : Expr) : HO := .ext fun h => ∃ (pm ctv : Value), h.get? f = some (PySem.W.kla_obj F.name F.qual F.params body F.scope F.cl pm F.c ctv)
theorem lamO_at {H : Hp} {h : Heap} {body : Expr} (hok : HOk P w H h) (e : H f = some (LamO f F body)) : ∃ (pm ctv : Value), h.get? f = some (PySem.W.kla_obj F.name F.qual F.params body F.scope F.cl pm F.c ctv) := by
  obtain ⟨z, _, _⟩ := hok f _ e
  exact z
theorem callee_lam {body : Expr} (S : NScope N ps fr F.scope) (hb : ∀ (pm ctv : Value) (us : List Value), us.length = ps.length → bindArgs (PySem.W.kla_fn F.name F.qual F.params body F.scope F.cl pm (.ref F.c) ctv) ⟨us, []⟩ = pure (ps.zip us)) (len : ∀ vs H Q, sp vs H Q L2.E0 → vs.length = ps.length)
    (hf : (f, LamO f F body) ∈ EX) (hc : (F.c, CodeO F.c F.qual) ∈ EX) (C : CellD D F.cl fr ws)
    (hbody : ∀ (A : Around) (outer : List Env) (s : Shared) (H : Hp) (vs : List V) (Q : VK), Room k (A.deeper (envF F f s.heap.objs.size)) → Dep D outer s H → ExOk EX H → sp vs H Q L2.E0 →
      ∃ t, PE (ncx L2.CX0 P w K mg base N F f A outer s H L2.E0) body t ∧ t (startF N vs ws) H Q) :
    Callee P w K mg base (k + 1) f sp D EX where
  at_ := fun h H _ hok x => by
    obtain ⟨pm, ctv, ho⟩ := lamO_at hok (x _ hf)
    exact ⟨_, _, _, _, ho⟩
  run := fun A outer s H us vs Q hr e0 d x r hsp => by
    have hl := len _ _ _ hsp
    have lim : s.heap.NoLimit := e0.mod.nolimit.keeps fun b o e => (e0.bs b o e).1
    obtain ⟨pm, ctv, ho⟩ := lamO_at e0.hok (x _ hf)
    refine PySem.W.kla_callFunE hr.depth ho rfl S.co S.gen rfl (codeO_at e0.hok (x _ hc)) ?_
    rw [hb pm ctv us (by rw [← r.length]; exact hl)]
    refine wpAny_pure (wpAny_newFunctionEnv S.nocell (fun ⟨n, _⟩ hy => S.par n (List.of_mem_zip hy).1) (fun h₁ hns hsb => ⟨lim.fresh _ hsb, ?_⟩) S.kind)
    show codeAny _ _ (.expr body (envF F f s.heap.objs.size)) _ _
    have kp : ∀ b o, s.heap.get? b = some o → h₁.get? b = some o := fun b o e => hsb.extBut b o (Nat.ne_of_lt (Heap.lt_size e)) (Heap.get?_push_of_some _ e)
    obtain ⟨t, ht, hq⟩ := hbody A outer s H vs Q (hr.deeper _) d x hsp
    have I : Inv (ncx L2.CX0 P w K mg base N F f A outer s H L2.E0) [] (startF N vs ws) H { s with heap := h₁, toks := s.toks + (ps.zip us).length } := inv_startN S hr.hd e0 hl r (C.at_ d) hns kp
    refine PySem.W.kla_codeExpr (wpAny_mono (ht.run [] _ (startF N vs ws) H Q I hq) (fun v s' hq => ?_) fun e s' hq => hq)
    obtain ⟨w', H', J, rv, q⟩ := hq
    exact ⟨w', H', J.os, J.bare, J.base, J.hok, rv, q⟩
end
end KT

/-! A lambda as a value; defs whose promise stands on captured cells. -/
namespace KT
open PySem PySem.Spec PyProof.Rows L2 NdefX LamX
section
variable {X : Cx} {pins : List (Addr × Obj)} {σ : L2.St} {H : Hp} {s : Shared}
theorem inv_lam {F : NF} {body : Expr} {o : Obj} {t' : Nat} {pm ctv : Value} (I : Inv X pins σ H s) (ho : o = PySem.W.kla_obj F.name F.qual F.params body F.scope F.cl pm F.c ctv) :
    Inv X pins σ (upd H s.heap.objs.size (LamO s.heap.objs.size F body)) { s with heap := s.heap.push o, toks := t' } := by
  subst ho
  refine I.laid (a := s.heap.objs.size) (fun b u e => Heap.get?_push_of_some _ e) (Nat.le_refl _) ?_
  have e : (s.heap.push (PySem.W.kla_obj F.name F.qual F.params body F.scope F.cl pm F.c ctv)).get? s.heap.objs.size = some (PySem.W.kla_obj F.name F.qual F.params body F.scope F.cl pm F.c ctv) := Heap.get?_push_size _ rfl
  exact ⟨⟨pm, ctv, e⟩, ⟨_, e⟩, fun h1 h2 ⟨p, t, z⟩ st => ⟨p, t, st _ z⟩⟩
abbrev lamF (X : Cx) (params : Arguments) (scope : Scope) (c' : Addr) : NF := ⟨"<lambda>", X.env.qual ++ "<lambda>", params, [], scope, cloFrom X.env.cells scope.names [], c'⟩
theorem lam_makeT {T : List (Addr × Str)} {c P : Addr} {params : Arguments} {body : Expr} {scope : Scope} {pos : Pos} {E : Value → Shared → Prop} {Q : Value → Shared → Prop} (I : Inv X pins σ H s) (TB : TabB X.base X.mg c P) (hcode : X.env.code = .ref c)
    (hm : (P, X.env.qual ++ "<lambda>") ∈ T) (hu : ∀ p ∈ T, p.1 = P → p.2 = X.env.qual ++ "<lambda>") (hT : Tabs T H) (hdef : defaultsOf params X.env = ([], [])) (hfree : ∀ y ∈ scope.names, y.2 = .free → ∃ c, X.env.cells.lookup y.1 = some c)
    (h : ∀ (f c' : Addr) (H1 : Hp) (s' : Shared), Inv X pins σ H1 s' → ExtN H H1 → (∀ b, H1 b = none → H b = none) → Tabs T H1 → H f = none → H1 f = some (LamO f (lamF X params scope c') body) → H1 c' = some (CodeO c' (X.env.qual ++ "<lambda>")) → Q (.ref f) s') :
    wpAny (model X.prog X.w) X.A (eval (.Lambda params body scope pos) X.env) Q E s := by
  obtain ⟨ps, hP, ht, ha⟩ := hT _ hm
  refine PySem.W.kla_eval hdef ?_
  have bP : s.heap.BuiltinsAt X.mg P := TB.bm.keeps I.bk
  have hP' : s.heap.get? P = some { cls := .none, data := .fields ps } := I.hok P _ hP
  cases hc : codeAmong pos ps.toList with
  | none =>
    refine PySem.W.kla_makeFunction (mg := X.mg) (c := c) (P := P) (ps := ps) (closure_ok hfree) I.ok.glob (I.mod.glob.keeps I.bk) hcode (TB.code.keeps I.bk) hP' ht hc TB.gP bP fun c' ctv h' tk hx hge hlt hrec htb => ?_
    obtain ⟨c2, oc, vs, t, e2, hoc, hd, hv⟩ := hrec
    cases e2
    have nC : H c' = none := I.hok.fresh hge
    have I1 := inv_table (t' := tk) (more := #[rawInt pos.line, rawInt pos.col, .ref c']) (h' := h') I hP (fun b o hb e => hx b o hb e) htb hge ⟨oc, vs, t, hoc, hd, hv⟩
    have hE : ExtN H (upd (upd H P (.tbl (ps ++ #[rawInt pos.line, rawInt pos.col, .ref c']))) c' (CodeO c' (X.env.qual ++ "<lambda>"))) := fun b o e n => by
      rw [upd_ne (ne_of_none e nC), upd_ne (fun z => n ps (Option.some.inj (e.symm.trans (by rw [z]; exact hP))))]
      exact e
    have eL : (ps ++ #[rawInt pos.line, rawInt pos.col, .ref c']).toList = ps.toList ++ [rawInt pos.line, rawInt pos.col, .ref c'] := by simp
    have T1 : Tabs T (upd (upd H P (.tbl (ps ++ #[rawInt pos.line, rawInt pos.col, .ref c']))) c' (CodeO c' (X.env.qual ++ "<lambda>"))) := fun p hp => by
      by_cases hb : p.1 = P
      · rw [hu p hp hb, hb]
        refine ⟨_, by rw [upd_ne (ne_of_none hP nC), upd_same], by rw [eL]; exact PySem.TriplesOk_snoc _ _ _ _ ht, fun p' cv hcv => ?_⟩
        rw [eL] at hcv
        rcases among_app _ ht hcv with z | z
        · obtain ⟨c0, e1, e2⟩ := ha p' cv z
          exact ⟨c0, e1, hE _ _ e2 codeO_ne⟩
        · exact ⟨c', z, upd_same⟩
      · obtain ⟨ps', a1, a2, a3⟩ := hT p hp
        refine ⟨ps', by rw [upd_ne (ne_of_none a1 nC), upd_ne hb]; exact a1, a2, fun p' cv hcv => ?_⟩
        obtain ⟨c0, e1, e2⟩ := a3 p' cv hcv
        exact ⟨c0, e1, hE _ _ e2 codeO_ne⟩
    have nF := I1.hok.fresh (Nat.le_refl _)
    have I2 := inv_lam (F := lamF X params scope c') (body := body) (t' := tk) (pm := (X.mg "__name__").getD .none) (ctv := ctv) I1 rfl
    refine h h'.objs.size c' _ _ I2 (fun b o e n => ?_) (fun b e => upd_none (upd_none (upd_none e))) (T1.ext fun b o e => ?_) (I.hok.fresh (Nat.le_trans hge (Nat.le_of_lt hlt))) upd_same ?_
    · have e1 := hE b o e n
      exact (upd_ne (ne_of_none e1 nF)).trans e1
    · exact (upd_ne (ne_of_none e nF)).trans e
    · exact (upd_ne (Nat.ne_of_lt hlt)).trans upd_same
  | some cv =>
    obtain ⟨c', e, hco⟩ := ha pos cv hc
    subst e
    refine PySem.W.kla_makeFunctionHit (mg := X.mg) (c := c) (P := P) (ps := ps) (closure_ok hfree) I.ok.glob (I.mod.glob.keeps I.bk) hcode (TB.code.keeps I.bk) hP' ht hc bP fun ctv h' tk hx hsz => ?_
    have I1 : Inv X pins σ H { s with heap := h', toks := tk } := I.kept hx
    have nF : H h'.objs.size = none := I1.hok.fresh (Nat.le_refl _)
    have I2 := inv_lam (F := lamF X params scope c') (body := body) (t' := tk) (pm := (X.mg "__name__").getD .none) (ctv := ctv) I1 rfl
    refine h h'.objs.size c' _ _ I2 (fun b o e n => ?_) (fun b e => upd_none e) (hT.ext fun b o e => ?_) nF upd_same ?_
    · exact (upd_ne (ne_of_none e nF)).trans e
    · exact (upd_ne (ne_of_none e nF)).trans e
    · exact (upd_ne (ne_of_none hco nF)).trans hco
end
/-- lambda ..: .., as a value -/
def tLamV (T : List (Addr × Str)) (mk : Addr → NF) (body : Expr) : TE := fun _ H Q => Tabs T H ∧ ∀ (f c' : Addr) (H1 : Hp), ExtN H H1 → (∀ b, H1 b = none → H b = none) → Tabs T H1 → H f = none → H1 f = some (LamO f (mk c') body) → H1 c' = some (CodeO c' (mk c').qual) → Q (.ref f) H1
section
variable {X : Cx}
theorem pe_lamV {T : List (Addr × Str)} {c P : Addr} {params : Arguments} {body : Expr} {scope : Scope} {pos : Pos} (TB : TabB X.base X.mg c P) (hcode : X.env.code = .ref c)
    (hm : (P, X.env.qual ++ "<lambda>") ∈ T) (hu : ∀ p ∈ T, p.1 = P → p.2 = X.env.qual ++ "<lambda>") (hdef : defaultsOf params X.env = ([], []))
    (hfree : ∀ y ∈ scope.names, y.2 = .free → X.env.scope.names.lookup y.1 = some .cell ∨ X.env.scope.names.lookup y.1 = some .free) :
    PE X (.Lambda params body scope pos) (tLamV T (lamF X params scope) body) := by
  refine ⟨fun pins s σ H Q I h => ?_⟩
  obtain ⟨hT, h⟩ := h
  have hfr : ∀ y ∈ scope.names, y.2 = .free → ∃ c, X.env.cells.lookup y.1 = some c := fun y hy e => (hfree y hy e).elim (fun z => I.ok.has _ (.inl z)) fun z => I.ok.has _ (.inr z)
  exact lam_makeT I TB hcode hm hu hT hdef hfr fun f c' H1 s' I1 eN nn T1 f0 f1 c1 => ⟨.ref f, H1, I1, rfl, h f c' H1 eN nn T1 f0 f1 c1⟩
end
/-! ### defs whose promise stands on pins -/
structure FnD (P : Program) (w : World) (K : PySem.W.Frag) (mg : Str → Option Value) (base : Heap) (k : Nat) (f : Addr) (fd : FuncData) (ps : List Str) (sp : Pins → Sp) : Prop where
  len : ∀ D vs H Q, sp D vs H Q L2.E0 → vs.length = ps.length
  run : ∀ (D : Pins) (B : Around) (outer : List Env) (s : Shared) (H : Hp) (args : Args) (us : List Value) (vs : List V) (Q : VK), Room k B → Env0 P w K mg base B outer s H →
    BindsTo s fd args (ps.zip us) → Vals vs us → Dep D outer s H → sp D vs H Q L2.E0 → codeAny (model P w) B (.call (.ref f) args) (CR L2.CX0 outer P w H s Q L2.E0) s
/-- THE RULE for such a def; c: its code object -/
theorem fnd_of {P : Program} {w : World} {K : PySem.W.Frag} {mg : Str → Option Value} {base : Heap} {x qual : Str} {st : Stmt} {f c : Addr} {N ps : List Str} {k : Nat} {sp : Pins → Sp} {oc : Value} {od : Option Addr} {kV doc pm : Value} {an : Option Addr} {ct : Value} {osl : Array (Option Value)}
    (lk : K.lookup f = some ⟨oc, od, .func (PySem.W.fnOf x qual (L2.defArgs st) (L2.defBody st) (L2.defScope st) .none kV doc pm an (.ref c) ct), osl⟩) (hcd : PySem.W.codeIn K (.ref c) qual = true)
    (S : FnScope N ps (L2.defScope st)) (len : ∀ D vs H Q, sp D vs H Q L2.E0 → vs.length = ps.length)
    (body : ∀ (D : Pins) (B : Around) (outer : List Env) (s : Shared) (H : Hp) (vs : List V) (Q : VK), Room k (B.deeper (envOfC qual (L2.defScope st) s.heap.objs.size f (.ref c))) → Dep D outer s H → sp D vs H Q L2.E0 →
      ∃ t, PSs (cxOf L2.CX0 P w K mg base N qual (L2.defScope st) f (.ref c) B outer s H L2.E0).nox (L2.defBody st) t ∧ t { nx := fun _ H' => Q .non H', rt := Q } (start N vs) H) :
    FnD P w K mg base (k + 1) f (PySem.W.fnOf x qual (L2.defArgs st) (L2.defBody st) (L2.defScope st) .none kV doc pm an (.ref c) ct) ps sp := by
  refine ⟨len, fun D B outer s H args us vs Q hr e0 hb r d hsp => ?_⟩
  have hl := len _ _ _ _ hsp
  have KX : K.In s.heap := e0.mod.kin.keeps fun b o e => (e0.bs b o e).1
  have lim : s.heap.NoLimit := e0.mod.nolimit.keeps fun b o e => (e0.bs b o e).1
  have kinds : ∀ y ∈ ps.zip us, (L2.defScope st).names.lookup y.1 = some .local ∨ ((L2.defScope st).names.lookup y.1 = some .cell ∧ ((cellsFrom (s.heap.objs.size + 1) (L2.defScope st).names []).lookup y.1).isSome = true) := by
    rintro ⟨n, v⟩ hy
    exact (S.par n (List.of_mem_zip hy).1).imp id fun q => ⟨q, PySem.W.cellsFrom_some _ _ _ (.inl q)⟩
  refine codeAny_call_function hr.depth (KX _ _ lk) rfl S.co S.gen rfl (PySem.W.codeRec_of KX hcd) (hb _ _ _ _ ?_)
  refine wpAny_newFunctionEnv_cells S.kind kinds fun env he s1 z => ?_
  subst he
  refine ⟨lim.keeps z.toInCall.keep, codeAny_func ?_⟩
  obtain ⟨t, ht, hq⟩ := body D B outer s H vs Q (hr.deeper _) d hsp
  have I := inv_start (CX := L2.CX0) (E := L2.E0) S hr.hd e0 hl r z
  refine wpAny_mono (ht.nox.run [] s1 (start N vs) H _ I hq) (fun fl s' hs => ?_) fun e s' hs => hs
  match fl, hs with
  | .ret u, ⟨v, σ', H', J, rv, q⟩ => exact ⟨v, H', J.os, J.bare, J.base, J.hok, rv, q⟩
  | .next, ⟨σ', H', J, q⟩ => exact ⟨V.non, H', J.os, J.bare, J.base, J.hok, rfl, q⟩
  | .brk, ⟨_, _, _, q⟩ => exact False.elim q
  | .cont, ⟨_, _, _, q⟩ => exact False.elim q
section
variable {X : Cx} {k : Nat} {f : Addr} {fd : FuncData} {ps : List Str} {sp : Pins → Sp} {x : Str} {p pos : Pos} {e : Expr} {es : List Expr} {t : TA} {D0 : Pins}
/-- f(e, ..), what stands for D0 and the cells cl of the running def -/
def tDCall (D0 : Pins) (cl : List (Str × Addr)) (fr : List Str) (js : List Nat) (sp : Pins → Sp) (t : TA) : TE := fun σ H Q => t σ H fun vs H1 => ∀ D1 : Pins, CellD D1 cl fr (js.map (slotAt σ)) → sp (D0 ++ D1) vs H1 Q L2.E0
theorem pe_dcall {cl : List (Str × Addr)} {fr : List Str} {js : List Nat} (F : FnD X.prog X.w X.K X.mg X.base k f fd ps sp) (hr : Room k X.A) (hx : X.ex = []) (hfn : ∀ x, X.fn x = true) (d : Dep D0 X.outer X.s_0 X.H_0) (cp : X.Ok → Caps X cl fr js)
    (hg : Gl X x) (hm : X.mg x = some (.ref f)) (hk : PySem.W.keepIn X.K (.ref f) = true) (hb : L2.Binds X.K fd ps [])
    (ha : PA X (e :: es) t) (hdb : (x == ("__debug__" : Str)) = false := by decide) (he : starEach (e :: es) X.env = (false, eval e X.env) :: starEach es X.env := by rfl) (hpl : (backTo pos (starEach es X.env)).any (·.1) = false := by rfl) :
    PE X (.Call (.Name x p) (e :: es) [] pos) (tDCall D0 cl fr js sp t) := by
  refine ⟨fun pins s σ H Q I h => wpAny_Call_Name_kw (ld_glob I hg hm ?_ hdb)⟩
  refine PySem.W.callWith_K (h₀ := X.base) I.ok.mod.kin hk (thn (ha.run pos pins s σ H _ I h) fun us s1 ⟨vs, H1, I1, r, q⟩ => ⟨I1.kIn, ?_⟩) he hpl
  obtain ⟨D1, d1, C1⟩ := own_cells I1 hx hfn (cp I1.ok)
  have hq := q D1 C1
  have hl : (us ++ []).length = ps.length := by
    rw [List.append_nil, ← r.length]
    exact F.len _ _ _ _ hq
  have hb' := hb s1 us I1.kIn hl
  rw [List.append_nil] at hb'
  refine wpAny_call (codeAny_mono (F.run (D0 ++ D1) X.A X.stack s1 H1 ⟨us, []⟩ us vs Q hr I1.env0 hb' r ((d.go hx I1).app d1) hq) fun q s' hq => ?_)
  match q, hq with
  | .error _, hq => exact False.elim hq
  | .ok (.ret _), hq => exact I1.after hq
  | .ok .next, hq => exact False.elim hq
  | .ok .brk, hq => exact False.elim hq
  | .ok .cont, hq => exact False.elim hq
end
end KT

namespace KT
open PySem PySem.Spec PyProof.Rows L2 NdefX LamX
/-- a promise that needs no pins is one of the plain kind -/
theorem FnD.ok {P : Program} {w : World} {K : PySem.W.Frag} {mg : Str → Option Value} {base : Heap} {k : Nat} {f : Addr} {fd : FuncData} {ps : List Str} {sp : Sp} (F : FnD P w K mg base k f fd ps (fun _ => sp)) (h0 : ∀ vs H Q E, sp vs H Q E → sp vs H Q L2.E0) : FnOk P w K mg base L2.CX0 k f fd ps sp := by
  refine ⟨fun vs H Q E h => F.len [] vs H Q (h0 _ _ _ _ h), fun B outer s H args us vs Q E hr e0 hb r h => codeAny_mono (F.run [] B outer s H args us vs Q hr e0 hb r Dep.nil (h0 _ _ _ _ h)) fun q s' hq => ?_⟩
  match q, hq with
  | .error _, hq => exact False.elim hq
  | .ok (.ret _), hq => exact hq
  | .ok .next, hq => exact False.elim hq
  | .ok .brk, hq => exact False.elim hq
  | .ok .cont, hq => exact False.elim hq
theorem CellD.nil {D : Pins} : CellD D [] [] [] := ⟨rfl, fun y c e => (by cases e), fun x y c e => (by cases e), fun i y e => (by simp at e)⟩
theorem Caps.nil {X : Cx} : Caps X [] [] [] := ⟨fun y c e => (by cases e), fun y hy => (by cases hy), fun y hy => (by cases hy), rfl⟩
section
variable {P : Program} {w : World} {K : PySem.W.Frag} {mg : Str → Option Value} {base : Heap} {N ps fr : List Str} {ws : List (Option V)} {F : NF} {f : Addr} {k : Nat} {sp : Sp} {D : Pins} {body : Expr} {H0 : Hp}
theorem lam_callee (e1 : H0 f = some (LamO f F body)) (e2 : H0 F.c = some (CodeO F.c F.qual)) (S : NScope N ps fr F.scope) (hb : ∀ (pm ctv : Value) (us : List Value), us.length = ps.length → bindArgs (PySem.W.kla_fn F.name F.qual F.params body F.scope F.cl pm (.ref F.c) ctv) ⟨us, []⟩ = pure (ps.zip us))
    (len : ∀ vs H Q, sp vs H Q L2.E0 → vs.length = ps.length) (C : CellD D F.cl fr ws)
    (hbody : ∀ (A : Around) (outer : List Env) (s : Shared) (H : Hp) (vs : List V) (Q : VK), Room k (A.deeper (envF F f s.heap.objs.size)) → Dep D outer s H → sp vs H Q L2.E0 →
      ∃ t, PE (ncx L2.CX0 P w K mg base N F f A outer s H L2.E0) body t ∧ t (startF N vs ws) H Q) :
    ∃ EX : Exts, Callee P w K mg base (k + 1) f sp D EX ∧ ExOk EX H0 ∧ ∀ p ∈ EX, ∀ ps, p.2 ≠ HO.tbl ps := by
  refine ⟨[(f, LamO f F body), (F.c, CodeO F.c F.qual)], callee_lam S hb len List.mem_cons_self (List.mem_cons_of_mem _ List.mem_cons_self) C fun A outer s H vs Q hr d _ h => hbody A outer s H vs Q hr d h, fun p hp => ?_, fun p hp ps => ?_⟩
  · rcases List.mem_cons.mp hp with rfl | hp
    · exact e1
    · rcases List.mem_cons.mp hp with rfl | hp
      · exact e2
      · exact absurd hp (by simp)
  · rcases List.mem_cons.mp hp with rfl | hp
    · exact fun z => by
        unfold LamO at z
        cases z
    · rcases List.mem_cons.mp hp with rfl | hp
      · exact codeO_ne ps
      · exact absurd hp (by simp)
end
end KT

namespace KT
open PySem PySem.Spec PyProof.Rows L2
theorem vals_at : ∀ {xs : List V} {us : List Value}, xs.length = us.length → (∀ (i : Nat) (x : V) (u : Value), xs[i]? = some x → us[i]? = some u → L2.RelV x u) → Vals xs us
  | [], [], _, _ => .nil
  | [], _ :: _, h, _ => by simp at h
  | _ :: _, [], h, _ => by simp at h
  | x :: xs, u :: us, h, k => .cons (k 0 x u rfl rfl) (vals_at (by simpa using h) fun i y v e1 e2 => k (i + 1) y v (by simpa using e1) (by simpa using e2))
section
variable {X : Cx}
/-- the signs of a text, one by one -/
def signsV (z : Str) : List V := z.cps.toList.map fun c => V.str ⟨#[c]⟩
/-- list(text) -/
theorem call_listS (hc : X.calm = true) : CallR X (.type "list") (fun xs H Q => ∃ z : Str, xs = [.str z] ∧ z.cps.size ≤ sizeLine ∧ ∀ p, H p = none → Q (.ref p) (upd H p (.lst (signsV z)))) := by
  intro pins s σ H xs us Q I r h
  obtain ⟨z, rfl, hz, q⟩ := h
  obtain ⟨u, rfl, t, rfl⟩ := vals1 r
  refine PySem.call_list_str (I.ok.hd hc) z t (fun h' tk acc c hk e hi => ?_) hz
  have rv : Vals (signsV z) acc.toList := by
    refine vals_at ?_ fun i x u h1 h2 => ?_
    · unfold signsV
      rw [List.length_map, Array.length_toList, Array.length_toList]
      exact hi.1.symm
    · obtain ⟨c, u', hc', rfl⟩ := hi.2 i u (by rw [← h2, Array.getElem?_toList])
      unfold signsV at h1
      rw [List.getElem?_map, Array.getElem?_toList, hc'] at h1
      cases h1
      exact ⟨u', rfl⟩
  refine ⟨.ref s.heap.objs.size, upd H s.heap.objs.size (.lst (signsV z)), I.laid hk (Nat.le_refl _) (show ObjOk X.prog X.w _ _ _ (.lst (signsV z)) from ⟨?_, acc.toList, c, rv, ?_⟩), rfl, q _ (I.hok.fresh (Nat.le_refl _))⟩
  · unfold signsV
    rw [List.length_map, Array.length_toList]
    exact hz
  · rw [Array.toArray_toList]
    exact e
end
end KT

namespace V1
open PySem PySem.Spec PyProof.Rows L2 KT
open PySem.W (Frag)
open TL (tl tl_append)
theorem PurseAt.mono {H : Hp} {a : Addr} {n m : Nat} (h : PurseAt H a n) (l : n ≤ m) : PurseAt H a m := by
  obtain ⟨p0, p1, p2, p3, e, h0, h1, h1', h2, h2', h3, h3'⟩ := h
  exact ⟨p0, p1, p2, p3, e, h0, h1, h1', h2, by omega, h3, h3'⟩
theorem PurseAt.upd {H : Hp} {a b : Addr} {n : Nat} {o : HO} (h : PurseAt H a n) (l : a ≠ b) : PurseAt (upd H b o) a n := by
  obtain ⟨p0, p1, p2, p3, e, r⟩ := h
  exact ⟨p0, p1, p2, p3, by rw [upd_ne l]; exact e, r⟩
theorem PurseAt.ne {H : Hp} {a b : Addr} {n : Nat} (h : PurseAt H a n) (e : H b = none) : a ≠ b := by
  obtain ⟨p0, p1, p2, p3, e', _⟩ := h
  exact ne_of_none e' e
theorem KeepBut.upd_new {a b : Addr} {H H' : Hp} {o : HO} (k : KeepBut a H H') (n : H b = none) : KeepBut a H (upd H' b o) := fun c u e hc => by
  rw [upd_ne (ne_of_none e n)]
  exact k c u e hc
theorem isW_bent {b : Str} {s c : Nat} (h : IsW b) (hs : s < b.length) (hc : 97 ≤ c ∧ c ≤ 122) : IsW (cutS b none (some (s : Int)) ++ (⟨#[c]⟩ : Str) ++ cutS b (some ((s : Int) + 1)) none) := by
  obtain ⟨h1, h2, h3⟩ := h
  have e1 : (cutS b none (some (s : Int))).cps.toList = b.cps.toList.take s := by
    unfold cutS
    rw [HT.sIx_nat, HT.sIx_none]
    have : min s b.length - 0 = s := by omega
    rw [this]
    simp
  have e2 : (cutS b (some ((s : Int) + 1)) none).cps.toList = b.cps.toList.drop (s + 1) := by
    unfold cutS
    have e : ((s : Int) + 1) = ((s + 1 : Nat) : Int) := by omega
    rw [e, HT.sIx_nat, HT.sIx_none]
    have : min (s + 1) b.length = s + 1 := by omega
    rw [this]
    have l : b.cps.toList.length = b.length := Array.length_toList
    show (List.take _ _).toArray.toList = _
    rw [List.take_of_length_le (by rw [List.length_drop, l]; exact Nat.le_refl _)]
  have et : (cutS b none (some (s : Int)) ++ (⟨#[c]⟩ : Str) ++ cutS b (some ((s : Int) + 1)) none).cps.toList = b.cps.toList.take s ++ [c] ++ b.cps.toList.drop (s + 1) := by
    show tl _ = _
    rw [tl_append, tl_append]
    show (cutS b none (some (s : Int))).cps.toList ++ [c] ++ (cutS b (some ((s : Int) + 1)) none).cps.toList = _
    rw [e1, e2]
  have l : b.cps.toList.length = b.length := Array.length_toList
  have el : (cutS b none (some (s : Int)) ++ (⟨#[c]⟩ : Str) ++ cutS b (some ((s : Int) + 1)) none).length = b.length := by
    have q := congrArg List.length et
    rw [List.length_append, List.length_append, List.length_take, List.length_drop, l, List.length_singleton] at q
    have q2 : (cutS b none (some (s : Int)) ++ (⟨#[c]⟩ : Str) ++ cutS b (some ((s : Int) + 1)) none).cps.toList.length = (cutS b none (some (s : Int)) ++ (⟨#[c]⟩ : Str) ++ cutS b (some ((s : Int) + 1)) none).length := Array.length_toList
    omega
  refine ⟨by omega, by omega, fun x hx => ?_⟩
  rw [et] at hx
  rcases List.mem_append.mp hx with hx | hx
  · rcases List.mem_append.mp hx with hx | hx
    · exact h3 x (List.mem_of_mem_take hx)
    · rw [List.mem_singleton.mp hx]
      exact hc
  · exact h3 x (List.mem_of_mem_drop hx)
theorem cutS_len (z : Str) (lo hi : Option Int) : (cutS z lo hi).length ≤ z.length := by
  have l : z.cps.toList.length = z.length := Array.length_toList
  have e : (cutS z lo hi).length = ((z.cps.toList.drop (HT.sIx z.length 0 lo)).take (HT.sIx z.length z.length hi - HT.sIx z.length 0 lo)).length := by
    unfold cutS Str.length
    rw [List.size_toArray]
  rw [e, List.length_take, List.length_drop]
  omega
theorem flat_map (zs : List Str) : (zs.map V.str).all flatV = true := by
  rw [List.all_eq_true]
  intro x hx
  obtain ⟨z, _, rfl⟩ := List.mem_map.mp hx
  rfl
theorem inV_str (z : Str) (zs : List Str) : inV (.str z) (zs.map V.str) = decide (z ∈ zs) := by
  unfold inV
  rw [List.any_map, Bool.eq_iff_iff, List.any_eq_true, decide_eq_true_eq]
  constructor
  · rintro ⟨x, hx, e⟩
    have e' : (x == z) = true := e
    rw [← eq_of_beq e']
    exact hx
  · intro h
    exact ⟨z, h, (show (z == z) = true from beq_self_eq_true z)⟩
section
variable {P : Program} {w : World} {K : Frag} {mg : Str → Option Value} {base : Heap}
def spWords : Sp := fun vs H Q _ => ∃ (a : Addr) (n : Nat) (many : Int), vs = [.ref a, .int many] ∧ PurseAt H a n ∧ n ≤ 800000000000 ∧ 1 ≤ many ∧ many ≤ 3 ∧
  ∀ (L : Addr) (zs : List Str) (H' : Hp), (∀ z ∈ zs, IsW z) → zs.Nodup → zs.length = many.toNat → KeepBut a H H' → H L = none → H' L = some (.lst (zs.map V.str)) → PurseAt H' a (n + 50) → Q (.ref L) H'
theorem nodup_len : ∀ (l D : List Str), l.Nodup → (∀ x ∈ l, x ∈ D) → l.length ≤ D.length
  | [], _, _, _ => Nat.zero_le _
  | x :: l, D, h, s => by
    obtain ⟨h1, h2⟩ := List.nodup_cons.mp h
    have hx := s x List.mem_cons_self
    have q := nodup_len l (D.erase x) h2 fun y hy => (List.mem_erase_of_ne (fun e => h1 (by rw [← e]; exact hy))).mpr (s y (List.mem_cons_of_mem _ hy))
    rw [List.length_erase_of_mem hx] at q
    have : 0 < D.length := List.length_pos_of_mem hx
    rw [List.length_cons]
    omega
def letters : List Str := (List.range 26).map fun j => (⟨#[97 + j]⟩ : Str)
theorem letters_nd : letters.Nodup := by decide +kernel
theorem abc_signs : signsV abc = letters.map V.str := by decide +kernel
theorem letters_w {y : Str} (h : y ∈ letters) : IsW y := by
  obtain ⟨j, hj, rfl⟩ := List.mem_map.mp h
  have := List.mem_range.mp hj
  refine ⟨by show 1 ≤ 1; omega, by show 1 ≤ 8; omega, fun c hc => ?_⟩
  have hc' : c ∈ [97 + j] := hc
  have := List.mem_singleton.mp hc'
  omega
/-- a letter that none of a few words is -/
theorem free_letter (zs : List Str) (h : zs.length ≤ 3) : ∃ y r, letters.filter (fun z => decide (z ∉ zs)) = y :: r := by
  cases e : letters.filter (fun z => decide (z ∉ zs)) with
  | cons y r => exact ⟨y, r, rfl⟩
  | nil =>
    have q := nodup_len letters zs letters_nd fun x hx => by
      refine Classical.byContradiction fun n => ?_
      have : x ∈ letters.filter (fun z => decide (z ∉ zs)) := List.mem_filter.mpr ⟨hx, decide_eq_true n⟩
      rw [e] at this
      cases this
    have : letters.length = 26 := by decide
    omega
theorem filter_snoc' {α : Type} (p : α → Bool) (l : List α) (i : Nat) (x : α) (h : l[i]? = some x) : (l.take (i + 1)).filter p = if p x then (l.take i).filter p ++ [x] else (l.take i).filter p := by
  rw [List.take_add_one, h, List.filter_append]
  by_cases c : p x <;> simp [c]
theorem nodup_snoc {zs : List Str} {y : Str} (h : zs.Nodup) (n : y ∉ zs) : (zs ++ [y]).Nodup := by
  rw [List.nodup_append]
  refine ⟨h, by simp, fun a ha b hb e => ?_⟩
  rw [List.mem_singleton.mp hb] at e
  exact n (e ▸ ha)
theorem ok_words {f fw fd_ fm : Addr} {fd fdw fdd fdm : FuncData} (T : Top K mg "_law_words" sLWords pLWords f fd) (TW : Top K mg "_law_word" sLWord ["purse"] fw fdw) (TD : Top K mg "_law_draw" sLDraw ["purse", "many"] fd_ fdd)
    (TM : Top K mg "_law_mixed" sLMixed ["seed", "spin", "at"] fm fdm) (B : Blt mg) : FnOk P w K mg base CX0 4 f fd pLWords spWords := by
  have GD : FnOk P w K mg base CX0 2 fd_ fdd ["purse", "many"] spDraw := ok_draw TD TM B
  have GW : FnOk P w K mg base CX0 3 fw fdw ["purse"] spWord := ok_word TW TD TM B
  refine T.F.ok scLWords (fun vs H Q E h => ?_) (fun cdv A outer s H vs Q E hr h => ?_)
  · obtain ⟨_, _, _, rfl, _⟩ := h
    rfl
  · obtain ⟨a, n, many, rfl, hp, hn, hm1, hm2, k⟩ := h
    have hr2 : Room 2 _ := hr.mono (by decide)
    refine ⟨_, (pss_cons (ps_par (i := 2) (j := 3) rfl scLWords.nd rfl rfl (by decide) rfl rfl (pa_cons (pe_call GW hr rfl TW.g TW.F.kp TW.b .nil pass0 (pa_cons (pv 0) pa_nil)) (pa_cons (pe_cmpR op_eq (pe_call GD hr2 rfl TD.g TD.F.kp TD.b .nil pass0 (pa_cons (pv 0) (pa_cons pe_int pa_nil))) pe_int (nomark _)) pa_nil)) (by rfl))
      (pss_cons (ps_asg (pe_tup (pa_cons (pe_call GD hr2 rfl TD.g TD.F.kp TD.b .nil pass0 (pa_cons (pv 0) (pa_cons (pe_callB call_len_str (by rfl) B.len PySem.boot_len (pa_cons (pv 2) pa_nil)) pa_nil))) (pa_cons (pe_lst pa_nil) pa_nil))) (pg_tup (by rfl) (pgs_cons (pg_name (i := 4) scLWords.nd rfl (Or.inl rfl)) (pgs_cons (pg_name (i := 5) scLWords.nd rfl (Or.inr rfl)) pgs_nil))))
      (pss_cons (ps_for PassesOwn.never rfl (pi_range1 (by rfl) B.range (pa_cons (pv 1) pa_nil)) (pg_name (i := 6) scLWords.nd rfl (Or.inl rfl))
        (pss_cons (ps_set (i := 7) scLWords.nd rfl (Or.inl rfl) (pe_op op_add_str (pe_op op_add_str (pe_slice sl_str (pv 2) po_none (po_some (pv 4))) (pe_ix ix_str pe_str (pe_call GD hr2 rfl TD.g TD.F.kp TD.b .nil pass0 (pa_cons (pv 0) (pa_cons pe_int pa_nil))) (fun _ _ => rfl))) (pe_slice sl_str (pv 2) (po_some (pe_op op_add (pv 4) pe_int)) po_none)))
      (pss_cons (ps_if (pt_not (pt_val (pv 3))) (pss_one (ps_set (i := 7) scLWords.nd rfl (Or.inl rfl) (pe_call GW hr rfl TW.g TW.F.kp TW.b .nil pass0 (pa_cons (pv 0) pa_nil)))) pss_nil)
      (pss_cons (ps_if (pt_cmpR op_in_seq (pv 7) (pv 5) (by rfl))
            (pss_one (ps_set (i := 7) scLWords.nd rfl (Or.inl rfl) (pe_ix ix_list (pe_lc (own := [("letter", 8)]) (g := gName 8) rfl scLWords.nd (pi_list (pe_callTy (call_listS rfl) (by rfl) B.list (by decide +kernel) (pa_cons pe_str pa_nil))) (blkOk_by (N := nLWords) (sc := defScope sLWords) (by decide +kernel)) (fun _ _ _ _ _ => pg_name (i := 8) scLWords.nd rfl (Or.inl rfl)) (fun _ _ _ _ _ => pts_one (pt_cmpR (show OpR _ _ (rIn K true) from op_notIn_seq) (pv 8) (pv 5) (by rfl))) (fun _ _ _ _ _ => (pv 8))) pe_int (fun _ _ => rfl)))) pss_nil)
      (pss_one (ps_expr (pe_bm PySem.F.plainAttrs_list PySem.F.slot_list_append PySem.F.type_list_append mt_append (pv 5) (pa_cons (pv 7) pa_nil))))))))
      (pss_one (ps_ret (pv 5)))))), ?_⟩
    refine ⟨_, rfl, a, n, rfl, hp, by omega, fun b H1 hb kb1 hp1 => ?_⟩
    obtain ⟨b1, b2, b3⟩ := id hb
    refine ⟨_, rfl, a, n + 10, 3, rfl, hp1, by omega, by decide, by decide, fun d2 H2 c0 c1 off2 hp2 => ⟨rfl, _, _, rfl, ?_⟩⟩
    have kb2 : KeepBut a H H2 := kb1.trans (.of_off off2)
    refine ⟨_, rfl, _, rfl, _, rfl, by rw [sizeLine_eq]; omega, a, n + 11, _, rfl, hp2, by omega, by omega, by omega, fun s0 H3 e0 e1 off3 hp3 => ?_⟩
    have kb3 : KeepBut a H H3 := kb2.trans (.of_off off3)
    obtain ⟨s, rfl⟩ := Int.eq_ofNat_of_zero_le e0
    refine ⟨by show 0 ≤ sizeLine; exact Nat.zero_le _, fun L hL => ⟨by show 2 ≤ sizeLine; rw [sizeLine_eq]; omega, fun T hT => ?_⟩⟩
    have nLa : a ≠ L := hp3.ne hL
    have nHL : H L = none := kb3.free hL nLa.symm
    have nLT : L ≠ T := ne_of_none upd_same hT
    have nT : H3 T = none := by
      rw [upd_ne nLT.symm] at hT
      exact hT
    have nHT : H T = none := kb3.free nT (hp3.ne nT).symm
    have hp4 := (hp3.upd (o := .lst []) nLa).upd (b := T) (o := .tup [.int (s : Nat), .ref L]) (hp3.ne nT)
    have kb4 : KeepBut a H (upd (upd H3 L (.lst [])) T (.tup [.int (s : Nat), .ref L])) := (kb3.upd_new nHL).upd_new nHT
    refine ⟨T, _, rfl, SqT.of upd_same, rfl, _, _, rfl, _, _, rfl, rfl, ?_⟩
    refine ⟨_, rfl, many, rfl, by omega, by omega, ?_⟩
    refine for_range (lo := 0) (n := many.toNat) (fun i σ H' => ∃ (v6 v7 v8 : Option V) (zs : List Str), σ = [some (.ref a), some (.int many), some (.str b), some (.bl (decide (V.int d2 = V.int 0))), some (.int (s : Nat)), some (.ref L), v6, v7, v8] ∧ (∀ z ∈ zs, IsW z) ∧ zs.Nodup ∧ zs.length = i ∧ KeepBut a H H' ∧ H' L = some (.lst (zs.map V.str)) ∧ PurseAt H' a (n + 12 + 11 * i))
      ⟨none, none, none, [], rfl, fun z hz => absurd hz (by simp), List.nodup_nil, rfl, kb4, by rw [upd_ne nLT, upd_same]; rfl, hp4.mono (by omega)⟩ ?_ ?_
    · rintro i σ H' hi ⟨v6, v7, v8, zs, rfl, hzs, nd, hl, kb', eL', hp'⟩
      have hi3 : i < 3 := by omega
      refine ⟨_, rfl, _, rfl, _, rfl, b, rfl, by rw [sizeLine_eq]; omega, _, rfl, a, _, 26, rfl, hp', by omega, by decide, by decide, fun d5 H5 g0 g1 off5 hp5 => ?_⟩
      obtain ⟨j, rfl⟩ := Int.eq_ofNat_of_zero_le g0
      have hj : j < 26 := by omega
      have eL5 : H5 L = some (.lst (zs.map V.str)) := by rw [off5 L nLa.symm]; exact eL'
      have kb5 : KeepBut a H H5 := kb'.trans (.of_off off5)
      have lc1 := cutS_len b none (some (s : Int))
      have lc2 := cutS_len b (some ((s : Int) + 1)) none
      have hz : IsW (cutS b none (some (s : Int)) ++ (⟨#[97 + j]⟩ : Str) ++ cutS b (some ((s : Int) + 1)) none) := isW_bent hb (by omega) (by omega)
      refine ⟨abc, _, _, rfl, rfl, by decide, atI_nat (abc_at j hj), _, _, rfl, rfl, by rw [sizeLine_eq]; show _ + 1 ≤ _; omega, ?_⟩
      refine ⟨_, rfl, _, rfl, _, _, rfl, rfl, _, rfl, b, rfl, by rw [sizeLine_eq]; omega, _, _, rfl, rfl, by rw [sizeLine_eq, strLen_append]; show _ + 1 + _ ≤ _; omega, ?_⟩
      generalize decide (V.int d2 = V.int 0) = nb
      cases nb with
      | false =>
        refine ⟨_, rfl, _, rfl, iteT ⟨_, rfl, a, _, rfl, hp5, by omega, fun z H6 hz6 kb56 hp6 => ?_⟩⟩
        have hz := hz6
        have kb6 : KeepBut a H H6 := kb5.trans kb56
        have eL3 : H6 L = some (.lst (zs.map V.str)) := kb56 _ _ eL5 nLa.symm
        have hp7 : PurseAt H6 a (n + 12 + 11 * (i + 1)) := hp6.mono (by omega)
        refine ⟨_, rfl, _, rfl, L, _, rfl, .inl (SqL.of eL3), rfl, flat_map zs, _, rfl, ?_⟩
        rw [inV_str]
        refine ite2 (fun hin => ?_) (fun hin => ?_)
        · refine ⟨abc, rfl, by rw [sizeLine_eq]; decide, fun p hpn => ⟨p, rfl, ⟨_, SqL.of upd_same⟩, fun D hD => ?_⟩⟩
          have nLp : L ≠ p := ne_of_none eL3 hpn
          have npD : p ≠ D := ne_of_none upd_same hD
          have nLD : L ≠ D := ne_of_none (show upd _ p _ L = _ by rw [upd_ne nLp]; exact eL3) hD
          have nap := hp7.ne hpn
          have naD := (hp7.upd (o := .lst (signsV abc)) nap).ne hD
          refine lc_list (K := K) (xs := signsV abc) (fun i H' => H' = upd (upd H6 p (.lst (signsV abc))) D (.lst (((letters.take i).filter fun z => decide (z ∉ zs)).map V.str))) rfl ?_ ?_ ?_
          · rintro i H' hi rfl
            exact SqL.of (by rw [upd_ne npD, upd_same])
          · rintro i x H' hx rfl
            rw [abc_signs, List.getElem?_map] at hx
            obtain ⟨y, hy, rfl⟩ := Option.map_eq_some_iff.mp hx
            refine ⟨rfl, _, rfl, _, rfl, L, _, rfl, .inl (SqL.of (by rw [upd_ne nLD, upd_ne nLp]; exact eL3)), rfl, flat_map zs, _, rfl, ?_⟩
            rw [inV_str, filter_snoc' _ _ _ _ hy]
            by_cases c : y ∈ zs
            · rw [decide_eq_true c, decide_eq_false (not_not_intro c)]
              exact iteF rfl
            · rw [decide_eq_false c, decide_eq_true c]
              refine iteT ⟨_, rfl, _, upd_same, ?_, ?_⟩
              · rw [List.length_map, sizeLine_eq]
                have := List.length_filter_le (fun z => decide (z ∉ zs)) (letters.take i)
                have l26 : letters.length = 26 := by decide
                rw [List.length_take, l26] at this
                omega
              · rw [upd_upd, if_pos rfl, List.map_append]
                rfl
          · rintro H' rfl
            obtain ⟨y, r, hy⟩ := free_letter zs (by omega)
            have l26 : (signsV abc).length = letters.length := by rw [abc_signs, List.length_map]
            rw [l26, List.take_length, hy]
            have hm : y ∈ letters.filter (fun z => decide (z ∉ zs)) := by rw [hy]; exact List.mem_cons_self
            obtain ⟨hm1, hm2⟩ := List.mem_filter.mp hm
            have ny : y ∉ zs := of_decide_eq_true hm2
            have eL7 : upd (upd H6 p (.lst (signsV abc))) D (.lst ((y :: r).map V.str)) L = some (.lst (zs.map V.str)) := by rw [upd_ne nLD, upd_ne nLp]; exact eL3
            refine ⟨D, _, _, _, rfl, rfl, SqL.of upd_same, atI_nat (j := 0) rfl, ?_⟩
            refine ⟨_, rfl, .inl ⟨rfl, _, SqL.of eL7⟩, _, rfl, L, _, _, rfl, rfl, eL7, by rw [List.length_map, sizeLine_eq]; omega, ?_⟩
            refine ⟨_, _, _, zs ++ [y], rfl, fun z hz' => (List.mem_append.mp hz').elim (hzs z) fun q => (List.mem_singleton.mp q) ▸ letters_w hm1, nodup_snoc nd ny, by rw [List.length_append, hl]; rfl, ?_, by rw [upd_same, List.map_append]; rfl, ?_⟩
            · exact ((kb6.upd_new (kb6.free hpn nap.symm)).upd_new (kb6.free (by rw [upd_ne npD.symm] at hD; exact hD) naD.symm)).upd_new nHL
            · exact (((hp7.upd nap).upd naD).upd nLa).mono (Nat.le_refl _)
        · refine ⟨_, rfl, .inl ⟨rfl, _, SqL.of eL3⟩, _, rfl, L, _, _, rfl, rfl, eL3, by rw [List.length_map, sizeLine_eq]; omega, ?_⟩
          refine ⟨_, _, _, zs ++ [_], rfl, fun z hz' => (List.mem_append.mp hz').elim (hzs z) fun q => (List.mem_singleton.mp q) ▸ hz, nodup_snoc nd (of_decide_eq_false (by simpa using hin)), by rw [List.length_append, hl]; rfl, kb6.upd_new nHL, by rw [upd_same, List.map_append]; rfl, hp7.upd nLa⟩
      | true =>
        have kb6 := kb5
        have eL3 := eL5
        have hp7 : PurseAt H5 a (n + 12 + 11 * (i + 1)) := hp5.mono (by omega)
        refine ⟨_, rfl, _, rfl, iteF ?_⟩
        refine ⟨_, rfl, _, rfl, L, _, rfl, .inl (SqL.of eL3), rfl, flat_map zs, _, rfl, ?_⟩
        rw [inV_str]
        refine ite2 (fun hin => ?_) (fun hin => ?_)
        · refine ⟨abc, rfl, by rw [sizeLine_eq]; decide, fun p hpn => ⟨p, rfl, ⟨_, SqL.of upd_same⟩, fun D hD => ?_⟩⟩
          have nLp : L ≠ p := ne_of_none eL3 hpn
          have npD : p ≠ D := ne_of_none upd_same hD
          have nLD : L ≠ D := ne_of_none (show upd _ p _ L = _ by rw [upd_ne nLp]; exact eL3) hD
          have nap := hp7.ne hpn
          have naD := (hp7.upd (o := .lst (signsV abc)) nap).ne hD
          refine lc_list (K := K) (xs := signsV abc) (fun i H' => H' = upd (upd H5 p (.lst (signsV abc))) D (.lst (((letters.take i).filter fun z => decide (z ∉ zs)).map V.str))) rfl ?_ ?_ ?_
          · rintro i H' hi rfl
            exact SqL.of (by rw [upd_ne npD, upd_same])
          · rintro i x H' hx rfl
            rw [abc_signs, List.getElem?_map] at hx
            obtain ⟨y, hy, rfl⟩ := Option.map_eq_some_iff.mp hx
            refine ⟨rfl, _, rfl, _, rfl, L, _, rfl, .inl (SqL.of (by rw [upd_ne nLD, upd_ne nLp]; exact eL3)), rfl, flat_map zs, _, rfl, ?_⟩
            rw [inV_str, filter_snoc' _ _ _ _ hy]
            by_cases c : y ∈ zs
            · rw [decide_eq_true c, decide_eq_false (not_not_intro c)]
              exact iteF rfl
            · rw [decide_eq_false c, decide_eq_true c]
              refine iteT ⟨_, rfl, _, upd_same, ?_, ?_⟩
              · rw [List.length_map, sizeLine_eq]
                have := List.length_filter_le (fun z => decide (z ∉ zs)) (letters.take i)
                have l26 : letters.length = 26 := by decide
                rw [List.length_take, l26] at this
                omega
              · rw [upd_upd, if_pos rfl, List.map_append]
                rfl
          · rintro H' rfl
            obtain ⟨y, r, hy⟩ := free_letter zs (by omega)
            have l26 : (signsV abc).length = letters.length := by rw [abc_signs, List.length_map]
            rw [l26, List.take_length, hy]
            have hm : y ∈ letters.filter (fun z => decide (z ∉ zs)) := by rw [hy]; exact List.mem_cons_self
            obtain ⟨hm1, hm2⟩ := List.mem_filter.mp hm
            have ny : y ∉ zs := of_decide_eq_true hm2
            have eL7 : upd (upd H5 p (.lst (signsV abc))) D (.lst ((y :: r).map V.str)) L = some (.lst (zs.map V.str)) := by rw [upd_ne nLD, upd_ne nLp]; exact eL3
            refine ⟨D, _, _, _, rfl, rfl, SqL.of upd_same, atI_nat (j := 0) rfl, ?_⟩
            refine ⟨_, rfl, .inl ⟨rfl, _, SqL.of eL7⟩, _, rfl, L, _, _, rfl, rfl, eL7, by rw [List.length_map, sizeLine_eq]; omega, ?_⟩
            refine ⟨_, _, _, zs ++ [y], rfl, fun z hz' => (List.mem_append.mp hz').elim (hzs z) fun q => (List.mem_singleton.mp q) ▸ letters_w hm1, nodup_snoc nd ny, by rw [List.length_append, hl]; rfl, ?_, by rw [upd_same, List.map_append]; rfl, ?_⟩
            · exact ((kb6.upd_new (kb6.free hpn nap.symm)).upd_new (kb6.free (by rw [upd_ne npD.symm] at hD; exact hD) naD.symm)).upd_new nHL
            · exact (((hp7.upd nap).upd naD).upd nLa).mono (Nat.le_refl _)
        · refine ⟨_, rfl, .inl ⟨rfl, _, SqL.of eL3⟩, _, rfl, L, _, _, rfl, rfl, eL3, by rw [List.length_map, sizeLine_eq]; omega, ?_⟩
          refine ⟨_, _, _, zs ++ [_], rfl, fun z hz' => (List.mem_append.mp hz').elim (hzs z) fun q => (List.mem_singleton.mp q) ▸ hz, nodup_snoc nd (of_decide_eq_false (by simpa using hin)), by rw [List.length_append, hl]; rfl, kb6.upd_new nHL, by rw [upd_same, List.map_append]; rfl, hp7.upd nLa⟩
    · rintro σ H' ⟨v6, v7, v8, zs, rfl, hzs, nd, hl, kb', eL', hp'⟩
      exact ⟨_, rfl, k L zs H' hzs nd hl kb' nHL eL' (hp'.mono (by omega))⟩
end
end V1

namespace V1
open PySem PySem.Spec PyProof.Rows L2 KT
open PySem.W (Frag)
structure Plains (zs : List Str) : Prop where
  so : sortedS zs = true
  nd : zs.Nodup
  w : ∀ z ∈ zs, IsW z
  l1 : 1 ≤ zs.length
  l3 : zs.length ≤ 3
def isWB (z : Str) : Bool := decide (1 ≤ z.length) && decide (z.length ≤ 8) && z.cps.toList.all fun c => decide (97 ≤ c) && decide (c ≤ 122)
theorem isWB_ok {z : Str} (h : isWB z = true) : IsW z := by
  unfold isWB at h
  simp only [Bool.and_eq_true, decide_eq_true_eq, List.all_eq_true] at h
  exact ⟨h.1.1, h.1.2, h.2⟩
def plainsB (zs : List Str) : Bool := sortedS zs && decide zs.Nodup && zs.all isWB && decide (1 ≤ zs.length) && decide (zs.length ≤ 3)
theorem plainsB_ok {zs : List Str} (h : plainsB zs = true) : Plains zs := by
  unfold plainsB at h
  simp only [Bool.and_eq_true, decide_eq_true_eq, List.all_eq_true] at h
  exact ⟨h.1.1.1.1, h.1.1.1.2, fun z hz => isWB_ok (h.1.1.2 z hz), h.1.2, h.2⟩
def odds : List (List Str) := [["cut", "is", "then"], ["athens", "over", "then"], ["end", "over", "under"], ["back", "is", "on"]]
theorem odds_ok : (odds.all fun zs => [1, 2, 3].all fun m => plainsB (zs.take m)) = true := by decide +kernel
section
variable {P : Program} {w : World} {K : Frag} {mg : Str → Option Value} {base : Heap}
def spPlains : Sp := fun vs H Q _ => ∃ (a : Addr) (n : Nat) (most : Int), vs = [.ref a, .int most] ∧ PurseAt H a n ∧ n ≤ 700000000000 ∧ 1 ≤ most ∧ most ≤ 3 ∧
  ∀ (L : Addr) (zs : List Str) (H' : Hp), Plains zs → (zs.length : Int) ≤ most → KeepBut a H H' → H L = none → H' L = some (.lst (zs.map V.str)) → PurseAt H' a (n + 60) → Q (.ref L) H'
/-- what the draws stand upon -/
structure TDs (K : Frag) (mg : Str → Option Value) (fd_ fm fw fws fo : Addr) (fdd fdm fdw fdws fdo : FuncData) : Prop where
  TD : Top K mg "_law_draw" sLDraw ["purse", "many"] fd_ fdd
  TM : Top K mg "_law_mixed" sLMixed ["seed", "spin", "at"] fm fdm
  TW : Top K mg "_law_word" sLWord ["purse"] fw fdw
  TWs : Top K mg "_law_words" sLWords pLWords fws fdws
  TO : Top K mg "_law_one_of" sLOneOf ["purse", "some"] fo fdo
  B : Blt mg
theorem ok_plains {f fd_ fm fw fws fo : Addr} {fd fdd fdm fdw fdws fdo : FuncData} (T : Top K mg "_law_plains" sLPlains pLPlains f fd) (U : TDs K mg fd_ fm fw fws fo fdd fdm fdw fdws fdo) : FnOk P w K mg base CX0 5 f fd pLPlains spPlains := by
  have B := U.B
  have TD := U.TD
  have TO := U.TO
  have TWs := U.TWs
  have GD : FnOk P w K mg base CX0 2 fd_ fdd ["purse", "many"] spDraw := ok_draw U.TD U.TM U.B
  have GO : FnOk P w K mg base CX0 3 fo fdo ["purse", "some"] spOneOf := ok_oneOf U.TO U.TD U.TM U.B
  have GW : FnOk P w K mg base CX0 4 fws fdws pLWords spWords := ok_words U.TWs U.TW U.TD U.TM U.B
  refine T.F.ok scLPlains (fun vs H Q E h => ?_) (fun cdv A outer s H vs Q E hr h => ?_)
  · obtain ⟨_, _, _, rfl, _⟩ := h
    rfl
  · obtain ⟨a, n, most, rfl, hp, hn, hm1, hm2, k⟩ := h
    have hr2 : Room 2 _ := hr.mono (by decide)
    have hr3 : Room 3 _ := hr.mono (by decide)
    refine ⟨_, (pss_cons (ps_if (pt_cmpR op_eq (pe_call GD hr2 rfl TD.g TD.F.kp TD.b .nil pass0 (pa_cons (pv 0) (pa_cons pe_int pa_nil))) pe_int (nomark _))
        (pss_one (ps_ret (pe_slice sl_list (pe_call GO hr3 rfl TO.g TO.F.kp TO.b .nil pass0 (pa_cons (pv 0) (pa_cons (pe_lst (pa_cons (pe_lst (pa_cons pe_str (pa_cons pe_str (pa_cons pe_str pa_nil)))) (pa_cons (pe_lst (pa_cons pe_str (pa_cons pe_str (pa_cons pe_str pa_nil)))) (pa_cons (pe_lst (pa_cons pe_str (pa_cons pe_str (pa_cons pe_str pa_nil)))) (pa_cons (pe_lst (pa_cons pe_str (pa_cons pe_str (pa_cons pe_str pa_nil)))) pa_nil))))) pa_nil))) po_none (po_some (pv 1))))) pss_nil)
      (pss_one (ps_ret (pe_callB cr_sortedS (by rfl) B.sorted (by decide +kernel) (pa_cons (pe_call GW hr rfl TWs.g TWs.F.kp TWs.b .nil pass0 (pa_cons (pv 0) (pa_cons (pe_op op_add pe_int (pe_call GD hr2 rfl TD.g TD.F.kp TD.b .nil pass0 (pa_cons (pv 0) (pa_cons (pv 1) pa_nil)))) pa_nil))) pa_nil))))), ?_⟩
    refine ⟨_, rfl, a, n, 8, rfl, hp, by omega, by decide, by decide, fun d H1 c0 c1 off1 hp1 => ⟨rfl, _, rfl, ite2 (fun _ => ?_) (fun _ => ?_)⟩⟩
    · have l3 : 3 ≤ sizeLine := by rw [sizeLine_eq]; omega
      have l4 : 4 ≤ sizeLine := by rw [sizeLine_eq]; omega
      have kb1 : KeepBut a H H1 := .of_off off1
      refine ⟨_, rfl, l3, fun p1 n1 => ⟨l3, fun p2 n2 => ⟨l3, fun p3 n3 => ⟨l3, fun p4 n4 => ⟨l4, fun p5 n5 => ?_⟩⟩⟩⟩⟩
      have q1 := hp1.upd (o := .lst [.str "cut", .str "is", .str "then"]) (hp1.ne n1)
      have q2 := q1.upd (o := .lst [.str "athens", .str "over", .str "then"]) (q1.ne n2)
      have q3 := q2.upd (o := .lst [.str "end", .str "over", .str "under"]) (q2.ne n3)
      have q4 := q3.upd (o := .lst [.str "back", .str "is", .str "on"]) (q3.ne n4)
      have q5 := q4.upd (o := .lst [.ref p1, .ref p2, .ref p3, .ref p4]) (q4.ne n5)
      have s2 := same_upd (o := .lst [.str "athens", .str "over", .str "then"]) n2
      have s3 := same_upd (o := .lst [.str "end", .str "over", .str "under"]) n3
      have s4 := same_upd (o := .lst [.str "back", .str "is", .str "on"]) n4
      have s5 := same_upd (o := .lst [.ref p1, .ref p2, .ref p3, .ref p4]) n5
      have sa := (((same_upd (o := .lst [.str "cut", .str "is", .str "then"]) n1).trans s2).trans s3).trans (s4.trans s5)
      refine ⟨a, p5, n + 1, _, rfl, q5, by omega, (q4.ne n5).symm, upd_same, by show 1 ≤ 4; omega, by show 4 < 1048576; omega, fun i x H7 hx off7 hp7 => ?_⟩
      have kb7 : KeepBut a H H7 := (kb1.trans (.of_same sa)).trans (.of_off off7)
      have fin : ∀ (pi : Addr) (zs : List Str), zs ∈ odds → pi ≠ a → H7 pi = some (.lst (zs.map V.str)) → x = .ref pi →
          tPart (tVar 1) [some (.ref a), some (.int most)] H7 fun u H3 => rSlL K x none u H3 Q := by
        rintro pi zs hz npa e rfl
        refine ⟨_, rfl, most, rfl, pi, _, rfl, SqL.of e, fun q nq => ?_⟩
        obtain ⟨m, rfl⟩ := Int.eq_ofNat_of_zero_le (show 0 ≤ most by omega)
        have hm : m = 1 ∨ m = 2 ∨ m = 3 := by omega
        have l3 : zs.length = 3 := by
          simp [odds] at hz
          rcases hz with rfl | rfl | rfl | rfl <;> rfl
        have ec : cutV (zs.map V.str) none (some (m : Int)) = (zs.take m).map V.str := by
          unfold cutV
          rw [HT.sIx_nat, HT.sIx_none, List.length_map, l3, List.map_take]
          have : min m 3 - 0 = m := by omega
          rw [this]
          rfl
        rw [ec]
        have hpl : Plains (zs.take m) := by
          have q := List.all_eq_true.mp odds_ok zs hz
          rw [List.all_eq_true] at q
          exact plainsB_ok (q m (by rcases hm with rfl | rfl | rfl <;> simp))
        exact k q _ _ hpl (by rw [List.length_take]; omega) (kb7.upd_new (kb7.free nq (hp7.ne nq).symm)) (kb7.free nq (hp7.ne nq).symm) upd_same ((hp7.upd (hp7.ne nq)).mono (by omega))
      have na1 := (hp1.ne n1).symm
      have na2 := (q1.ne n2).symm
      have na3 := (q2.ne n3).symm
      have na4 := (q3.ne n4).symm
      match i, hx with
      | 0, hx =>
        refine fin p1 ["cut", "is", "then"] (by simp [odds]) na1 ?_ (Option.some.inj hx).symm
        rw [off7 p1 na1]
        exact ((s2.trans s3).trans (s4.trans s5)) _ _ upd_same
      | 1, hx =>
        refine fin p2 ["athens", "over", "then"] (by simp [odds]) na2 ?_ (Option.some.inj hx).symm
        rw [off7 p2 na2]
        exact (s3.trans (s4.trans s5)) _ _ upd_same
      | 2, hx =>
        refine fin p3 ["end", "over", "under"] (by simp [odds]) na3 ?_ (Option.some.inj hx).symm
        rw [off7 p3 na3]
        exact (s4.trans s5) _ _ upd_same
      | 3, hx =>
        refine fin p4 ["back", "is", "on"] (by simp [odds]) na4 ?_ (Option.some.inj hx).symm
        rw [off7 p4 na4]
        exact s5 _ _ upd_same
      | i + 4, hx => exact absurd hx (by simp)
    · have kb1 : KeepBut a H H1 := .of_off off1
      refine ⟨_, rfl, _, rfl, _, rfl, a, n + 1, most, rfl, hp1, by omega, hm1, by omega, fun d2 H2 e0 e1 off2 hp2 => ?_⟩
      refine ⟨_, _, rfl, rfl, a, n + 2, _, rfl, hp2, by omega, by omega, by omega, fun L zs H3 hw nd hl kb3 nL eL hp3 => ?_⟩
      refine ⟨L, zs, rfl, SqL.of eL, by omega, fun ys p pm so hpn => ?_⟩
      have kb : KeepBut a H H3 := (kb1.trans (.of_off off2)).trans kb3
      refine k p ys _ ⟨so, pm.nodup_iff.mpr nd, fun z hz => hw z (pm.mem_iff.mp hz), by rw [pm.length_eq]; omega, by rw [pm.length_eq]; omega⟩ (by rw [pm.length_eq]; omega) ?_ (kb.free hpn (hp3.ne hpn).symm) upd_same ((hp3.upd (hp3.ne hpn)).mono (by omega))
      exact kb.upd_new (kb.free hpn (hp3.ne hpn).symm)
end
end V1

namespace V1
open PySem PySem.Spec PyProof.Rows L2 KT
open PySem.W (Frag)
def Ty.words : Ty → List Str
  | .w z => [z]
  | .n _ a b => a.words ++ b.words
theorem TK.of_keepBut {a : Addr} {n : Nat} {H H' : Hp} (k : KeepBut a H H') (p : PurseAt H a n) : TK H H' := fun q xs e => k q _ e fun z => by
  obtain ⟨_, _, _, _, e', _⟩ := p
  rw [z, e'] at e
  cases e
section
variable {P : Program} {w : World} {K : Frag} {mg : Str → Option Value} {base : Heap}
def spKind (d : Nat) : Sp := fun vs H Q _ => ∃ (a L : Addr) (n m : Nat) (zs : List Str), vs = [.ref a, .ref L, .int m] ∧ PurseAt H a n ∧ n + 3 * m ≤ 600000000000 ∧ L ≠ a ∧ H L = some (.lst (zs.map V.str)) ∧ Plains zs ∧ m ≤ d ∧
  ∀ (x : V) (t : Ty) (H' : Hp), TyAt H' x t → t.signs = m → (∀ z ∈ t.words, z ∈ zs) → KeepBut a H H' → PurseAt H' a (n + 3 * m + 1) → Q x H'

theorem ok_kind {f fd_ fm fw fws fo : Addr} {fd fdd fdm fdw fdws fdo : FuncData} (T : Top K mg "_law_kind" sLKind pLKind f fd) (U : TDs K mg fd_ fm fw fws fo fdd fdm fdw fdws fdo) : ∀ d : Nat, d ≤ 30 → FnOk P w K mg base CX0 (4 + d) f fd pLKind (spKind d)
  | 0, _ => by
    have B := U.B
    have TO := U.TO
    have GO : FnOk P w K mg base CX0 3 fo fdo ["purse", "some"] spOneOf := ok_oneOf U.TO U.TD U.TM U.B
    refine T.F.ok scLKind (fun vs H Q E h => ?_) (fun cdv A outer s H vs Q E hr h => ?_)
    · obtain ⟨_, _, _, _, _, rfl, _⟩ := h
      rfl
    · obtain ⟨a, L, n, m, zs, rfl, hp, hn, nLa, eL, hz, hm, k⟩ := h
      obtain rfl : m = 0 := by omega
      refine ⟨_, pss_cons (ps_if (pt_cmpR op_eq (pv 2) pe_int (nomark _)) (pss_one (ps_ret (pe_call GO hr rfl TO.g TO.F.kp TO.b .nil pass0 (pa_cons (pv 0) (pa_cons (pv 1) pa_nil))))) pss_nil) pss_never, ?_⟩
      have l1 := hz.l1
      have l3 := hz.l3
      refine ⟨_, rfl, rfl, true, rfl, iteT ⟨_, rfl, _, rfl, a, L, n, _, rfl, hp, by omega, nLa, eL, by rw [List.length_map]; exact hz.l1, by rw [List.length_map]; omega, fun i x H' hx off hp' => ?_⟩⟩
      rw [List.getElem?_map] at hx
      obtain ⟨z, hzi, rfl⟩ := Option.map_eq_some_iff.mp hx
      exact k _ (.w z) H' (.w (hz.w z (List.mem_of_getElem? hzi))) rfl (fun y hy => by rw [List.mem_singleton.mp hy]; exact List.mem_of_getElem? hzi) (.of_off off) hp'
  | d + 1, hd => by
    have B := U.B
    have TO := U.TO
    have TD := U.TD
    have GD : FnOk P w K mg base CX0 2 fd_ fdd ["purse", "many"] spDraw := ok_draw U.TD U.TM U.B
    have GO : FnOk P w K mg base CX0 3 fo fdo ["purse", "some"] spOneOf := ok_oneOf U.TO U.TD U.TM U.B
    have GK : FnOk P w K mg base CX0 (4 + d) f fd pLKind (spKind d) := ok_kind T U d (by omega)
    refine T.F.ok (k := 4 + d) scLKind (fun vs H Q E h => ?_) (fun cdv A outer s H vs Q E hr h => ?_)
    · obtain ⟨_, _, _, _, _, rfl, _⟩ := h
      rfl
    · obtain ⟨a, L, n, m, zs, rfl, hp, hn, nLa, eL, hz, hm, k⟩ := h
      have hr3 : Room 3 _ := hr.mono (by omega)
      have hr2 : Room 2 _ := hr.mono (by omega)
      refine ⟨_, (pss_cons (ps_if (pt_cmpR op_eq (pv 2) pe_int (nomark _)) (pss_one (ps_ret (pe_call GO hr3 rfl TO.g TO.F.kp TO.b .nil pass0 (pa_cons (pv 0) (pa_cons (pv 1) pa_nil))))) pss_nil)
      (pss_cons (ps_set (i := 3) scLKind.nd rfl (Or.inl rfl) (pe_call GD hr2 rfl TD.g TD.F.kp TD.b .nil pass0 (pa_cons (pv 0) (pa_cons (pv 2) pa_nil))))
      (pss_cons (ps_par (i := 4) (j := 5) rfl scLKind.nd rfl rfl (by decide) rfl rfl (pa_cons (pe_call GK hr rfl T.g T.F.kp T.b .nil pass0 (pa_cons (pv 0) (pa_cons (pv 1) (pa_cons (pv 3) pa_nil)))) (pa_cons (pe_call GK hr rfl T.g T.F.kp T.b .nil pass0 (pa_cons (pv 0) (pa_cons (pv 1) (pa_cons (pe_op op_sub (pe_op op_sub (pv 2) pe_int) (pv 3)) pa_nil)))) pa_nil)) (by rfl))
      (pss_one (ps_ret (pe_tup (pa_cons (pe_call GO hr3 rfl TO.g TO.F.kp TO.b .nil pass0 (pa_cons (pv 0) (pa_cons (pe_lst (pa_cons pe_str (pa_cons pe_str (pa_cons pe_str (pa_cons pe_str (pa_cons pe_str pa_nil)))))) pa_nil))) (pa_cons (pv 4) (pa_cons (pv 5) pa_nil))))))))), ?_⟩
      have l1 := hz.l1
      have l3 := hz.l3
      refine ⟨_, rfl, rfl, _, rfl, ite2 (fun c => ?_) (fun c => ?_)⟩
      · have e0 : (V.int (m : Int)) = V.int 0 := of_decide_eq_true c
        obtain rfl : m = 0 := by
          injection e0 with e0
          omega
        refine ⟨_, rfl, _, rfl, a, L, n, _, rfl, hp, by omega, nLa, eL, by rw [List.length_map]; exact hz.l1, by rw [List.length_map]; omega, fun i x H' hx off hp' => ?_⟩
        rw [List.getElem?_map] at hx
        obtain ⟨z, hzi, rfl⟩ := Option.map_eq_some_iff.mp hx
        exact k _ (.w z) H' (.w (hz.w z (List.mem_of_getElem? hzi))) rfl (fun y hy => by rw [List.mem_singleton.mp hy]; exact List.mem_of_getElem? hzi) (.of_off off) hp'
      · have hm0 : m ≠ 0 := fun e => c (by rw [e]; rfl)
        refine ⟨_, rfl, _, rfl, a, n, m, rfl, hp, by omega, by omega, by omega, fun d0 H1 c0 c1 off1 hp1 => ?_⟩
        obtain ⟨j, rfl⟩ := Int.eq_ofNat_of_zero_le c0
        have hj : j < m := by omega
        have kb1 : KeepBut a H H1 := .of_off off1
        refine ⟨_, rfl, _, rfl, _, rfl, a, L, n + 1, j, zs, rfl, hp1, by omega, nLa, by rw [off1 L nLa]; exact eL, hz, by omega, fun x1 t1 H2 ht1 hs1 hw1 kb2 hp2 => ?_⟩
        refine ⟨_, rfl, _, rfl, _, rfl, _, _, rfl, rfl, _, rfl, _, _, rfl, rfl, ?_⟩
        have em : (m : Int) - 1 - (j : Int) = ((m - 1 - j : Nat) : Int) := by omega
        refine ⟨a, L, n + 1 + 3 * j + 1, m - 1 - j, zs, congrArg (fun e => [V.ref a, V.ref L, V.int e]) em, hp2, by omega, nLa, kb2 _ _ (by rw [off1 L nLa]; exact eL) nLa, hz, by omega, fun x2 t2 H3 ht2 hs2 hw2 kb3 hp3 => ?_⟩
        refine ⟨_, _, rfl, ?_⟩
        have l5 : 5 ≤ sizeLine := by rw [sizeLine_eq]; omega
        have l3' : 3 ≤ sizeLine := by rw [sizeLine_eq]; omega
        refine ⟨_, rfl, l5, fun p np => ⟨a, p, n + 1 + 3 * j + 1 + 3 * (m - 1 - j) + 1, _, rfl, hp3.upd (hp3.ne np), by omega, (hp3.ne np).symm, upd_same, by show 1 ≤ 5; omega, by show 5 < 1048576; omega, fun i x H4 hx off4 hp4 => ?_⟩⟩
        have hg : ∃ g : Sg, x = .str g.str := by
          match i, hx with
          | 0, hx => exact ⟨.ov, (Option.some.inj hx).symm⟩
          | 1, hx => exact ⟨.ov, (Option.some.inj hx).symm⟩
          | 2, hx => exact ⟨.th, (Option.some.inj hx).symm⟩
          | 3, hx => exact ⟨.un, (Option.some.inj hx).symm⟩
          | 4, hx => exact ⟨.un, (Option.some.inj hx).symm⟩
          | i + 5, hx => exact absurd hx (by simp)
        obtain ⟨g, rfl⟩ := hg
        have kb4 : KeepBut a H3 H4 := (KeepBut.of_same (same_upd np)).trans (.of_off off4)
        have kbA : KeepBut a H H4 := ((kb1.trans kb2).trans kb3).trans kb4
        refine ⟨_, rfl, _, rfl, l3', fun q nq => ?_⟩
        have tk4 : TK H3 (upd H4 q (.tup [.str g.str, x1, x2])) := (TK.of_keepBut kb4 hp3).trans (TK.upd_new nq)
        have tk3 : TK H2 (upd H4 q (.tup [.str g.str, x1, x2])) := (TK.of_keepBut kb3 hp2).trans tk4
        refine k _ (.n g t1 t2) _ (.n upd_same (ht1.mono tk3) (ht2.mono tk4)) ?_ ?_ (kbA.upd_new (kbA.free nq (hp4.ne nq).symm)) ((hp4.upd (hp4.ne nq)).mono (by omega))
        · show 1 + t1.signs + t2.signs = m
          omega
        · intro z hz'
          exact (List.mem_append.mp hz').elim (hw1 z) (hw2 z)
end
end V1

namespace V1
open PySem PySem.Spec PyProof.Rows L2 KT
open PySem.W (Frag)
/-! ### data: texts, numbers, None, tuples -/
/-- a text that may be met -/
def TxtOk (z : Str) : Prop := PyData.strOk z = true ∧ z.length ≤ 1000000
inductive D
  | s (z : Str)
  | i (n : Int)
  | o
  | t (l : List D)
mutual
inductive DAt (H : Hp) : V → D → Prop
  | s {z : Str} : TxtOk z → DAt H (.str z) (.s z)
  | i (n : Int) : DAt H (.int n) (.i n)
  | o : DAt H .non .o
  | t {p : Addr} {xs : List V} {ds : List D} : H p = some (.tup xs) → DsAt H xs ds → DAt H (.ref p) (.t ds)
inductive DsAt (H : Hp) : List V → List D → Prop
  | nil : DsAt H [] []
  | cons {v : V} {vs : List V} {d : D} {ds : List D} : DAt H v d → DsAt H vs ds → DsAt H (v :: vs) (d :: ds)
end
mutual
theorem DAt.mono {H H' : Hp} (k : TK H H') : ∀ {d : D} {v : V}, DAt H v d → DAt H' v d
  | .s _, _, .s h => .s h
  | .i _, _, .i n => .i n
  | .o, _, .o => .o
  | .t _, _, .t e h => .t (k _ _ e) (DsAt.mono k h)
theorem DsAt.mono {H H' : Hp} (k : TK H H') : ∀ {ds : List D} {vs : List V}, DsAt H vs ds → DsAt H' vs ds
  | [], _, .nil => .nil
  | _ :: _, _, .cons h r => .cons (DAt.mono k h) (DsAt.mono k r)
end
theorem DsAt.length {H : Hp} : ∀ {ds : List D} {vs : List V}, DsAt H vs ds → vs.length = ds.length
  | _, _, .nil => rfl
  | _, _, .cons _ r => by rw [List.length_cons, List.length_cons, r.length]
theorem DsAt.append {H : Hp} : ∀ {ds es : List D} {vs us : List V}, DsAt H vs ds → DsAt H us es → DsAt H (vs ++ us) (ds ++ es)
  | _, _, _, _, .nil, h => h
  | _, _, _, _, .cons a r, h => .cons a (r.append h)
theorem DsAt.at_ {H : Hp} : ∀ {ds : List D} {vs : List V}, DsAt H vs ds → ∀ {i : Nat} {v : V}, vs[i]? = some v → ∃ d, ds[i]? = some d ∧ DAt H v d
  | _, _, .nil, i, v, e => by simp at e
  | _, _, .cons h r, 0, v, e => by
    obtain rfl := Option.some.inj (show some _ = some v from e)
    exact ⟨_, rfl, h⟩
  | _, _, .cons h r, i + 1, v, e => r.at_ (i := i) (by simpa using e)
mutual
def D.py : D → PyData
  | .s z => .str z
  | .i n => .int n
  | .o => .none
  | .t l => .tuple (pyAll l)
def pyAll : List D → List PyData
  | [] => []
  | d :: r => d.py :: pyAll r
end
mutual
def D.dep : D → Nat
  | .s _ => 0
  | .i _ => 0
  | .o => 0
  | .t l => depAll l + 1
def depAll : List D → Nat
  | [] => 0
  | d :: r => max d.dep (depAll r)
end
mutual
def D.size : D → Nat
  | .s _ => 1
  | .i _ => 1
  | .o => 1
  | .t l => sizeAll l + 1
def sizeAll : List D → Nat
  | [] => 0
  | d :: r => d.size + sizeAll r
end
mutual
theorem DAt.py {K : Frag} {H : Hp} : ∀ {d : D} {v : V}, DAt H v d → Dp K H v d.py ∧ d.py.canLay0 = true ∧ d.py.depth = d.dep
  | .s z, _, .s h => ⟨.str _, by simp only [D.py, PyData.canLay0]; exact h.1, by simp only [D.py, PyData.depth, D.dep]⟩
  | .i _, _, .i n => ⟨.int _, by simp only [D.py, PyData.canLay0], by simp only [D.py, PyData.depth, D.dep]⟩
  | .o, _, .o => ⟨.non, by simp only [D.py, PyData.canLay0], by simp only [D.py, PyData.depth, D.dep]⟩
  | .t l, _, .t e h => by
    obtain ⟨h1, h2, h3⟩ := DsAt.py (K := K) h
    exact ⟨.tup (SqT.of e) h1, by simp only [D.py, PyData.canLay0]; exact h2, by simp only [D.py, PyData.depth, D.dep, h3]⟩
theorem DsAt.py {K : Frag} {H : Hp} : ∀ {ds : List D} {vs : List V}, DsAt H vs ds → DpAll K H vs (pyAll ds) ∧ PyData.canLayAll0 (pyAll ds) = true ∧ PyData.depthAll (pyAll ds) = depAll ds
  | [], _, .nil => ⟨.nil, by simp only [pyAll, PyData.canLayAll0], by simp only [pyAll, PyData.depthAll, depAll]⟩
  | _ :: _, _, .cons h r => by
    obtain ⟨a1, a2, a3⟩ := DAt.py (K := K) h
    obtain ⟨b1, b2, b3⟩ := DsAt.py (K := K) r
    exact ⟨.cons a1 b1, by simp only [pyAll, PyData.canLayAll0, a2, b2, Bool.and_self], by simp only [pyAll, PyData.depthAll, depAll, a3, b3]⟩
end
theorem DAt.shaped {K : Frag} {H : Hp} {d : D} {v : V} (h : DAt H v d) (l : d.dep ≤ 64) : SeqAt.shaped d.py = true := by
  obtain ⟨_, h2, h3⟩ := DAt.py (K := K) h
  unfold SeqAt.shaped
  rw [h2, h3, Bool.true_and]
  exact decide_eq_true l
theorem D.size_pos (d : D) : 1 ≤ d.size := by cases d <;> simp [D.size]
/-! ### types as data -/
def Ty.d : Ty → D
  | .w z => .s z
  | .n g a b => .t [.s g.str, a.d, b.d]
theorem isW_ok {z : Str} (h : IsW z) : TxtOk z := by
  refine ⟨?_, by have := h.2.1; omega⟩
  unfold PyData.strOk
  simp only [List.all_eq_true, Array.all_eq_true_iff_forall_mem, decide_eq_true_eq]
  intro c hc
  have := h.2.2 c (by simpa using hc)
  omega
theorem TyAt.d {H : Hp} {v : V} {t : Ty} (h : TyAt H v t) : DAt H v t.d := by
  induction h with
  | w h => exact .s (isW_ok h)
  | @n p g x y a b e _ _ i j => exact .t e (.cons (.s (by cases g <;> exact ⟨by decide +kernel, by decide +kernel⟩)) (.cons i (.cons j .nil)))
def sgOf (z : Str) : Option Sg := if z = "over" then some .ov else if z = "then" then some .th else if z = "under" then some .un else none
theorem sgOf_some {z : Str} {g : Sg} (h : sgOf z = some g) : z = g.str := by
  unfold sgOf at h
  split at h
  · cases h; assumption
  · split at h
    · cases h; assumption
    · split at h
      · cases h; assumption
      · cases h
theorem sgOf_str (g : Sg) : sgOf g.str = some g := by cases g <;> decide +kernel
end V1

namespace V1
open PySem PySem.Spec PyProof.Rows L2 KT
open PySem.W (Frag)
theorem isWB_of {z : Str} (h : IsW z) : isWB z = true := by
  unfold isWB
  simp only [Bool.and_eq_true, decide_eq_true_eq, List.all_eq_true]
  exact ⟨⟨h.1, h.2.1⟩, h.2.2⟩
def mkTy (l : List D) (r : List (Option Ty)) : Option Ty := match l, r with
  | [.s g, _, _], [_, some a, some b] => (sgOf g).map fun g => .n g a b
  | _, _ => none
mutual
def D.ty : D → Option Ty
  | .s z => if isWB z = true then some (.w z) else none
  | .i _ => none
  | .o => none
  | .t l => mkTy l (tyAll l)
def tyAll : List D → List (Option Ty)
  | [] => []
  | d :: r => d.ty :: tyAll r
end
def Ty.wok : Ty → Prop
  | .w z => IsW z
  | .n _ a b => a.wok ∧ b.wok
theorem TyAt.wok {H : Hp} {v : V} {t : Ty} (h : TyAt H v t) : t.wok := by
  induction h with
  | w h => exact h
  | n _ _ _ i j => exact ⟨i, j⟩
theorem Ty.ty_d (t : Ty) (h : t.wok) : t.d.ty = some t := by
  induction t with
  | w z =>
    simp only [Ty.d, D.ty]
    rw [if_pos (isWB_of h)]
  | n g a b i j => simp only [Ty.d, D.ty, tyAll, mkTy, i h.1, j h.2, sgOf_str, Option.map_some]
theorem mkTy_inv {l : List D} {r : List (Option Ty)} {t : Ty} (h : mkTy l r = some t) : ∃ g x y a b, l = [.s (Sg.str g), x, y] ∧ (∃ o, r = [o, some a, some b]) ∧ t = .n g a b := by
  unfold mkTy at h
  split at h
  · obtain ⟨g, h1, h2⟩ := Option.map_eq_some_iff.mp h
    exact ⟨g, _, _, _, _, by rw [sgOf_some h1], ⟨_, rfl⟩, h2.symm⟩
  · cases h
mutual
/-- a datum that is a type lies in the heap as that type -/
theorem DAt.ty {H : Hp} : ∀ {d : D} {v : V} {t : Ty}, DAt H v d → d.ty = some t → TyAt H v t
  | .s z, _, t, .s _, h => by
    simp only [D.ty] at h
    split at h
    · rename_i q
      cases h
      exact .w (isWB_ok q)
    · cases h
  | .i _, _, t, .i _, h => by simp only [D.ty] at h; cases h
  | .o, _, t, .o, h => by simp only [D.ty] at h; cases h
  | .t l, _, t, .t e hs, h => by
    simp only [D.ty] at h
    obtain ⟨g, x, y, a, b, rfl, ⟨o, hr⟩, rfl⟩ := mkTy_inv h
    simp only [tyAll] at hr
    have q := DsAt.ty hs
    cases hs with
    | cons h1 hs => cases hs with
      | cons h2 hs => cases hs with
        | cons h3 hs => cases hs with
          | nil =>
            cases h1
            injection hr with _ hr
            injection hr with e1 hr
            injection hr with e2 _
            exact .n e (q 1 _ _ _ rfl rfl e1) (q 2 _ _ _ rfl rfl e2)
theorem DsAt.ty {H : Hp} : ∀ {ds : List D} {vs : List V}, DsAt H vs ds → ∀ (j : Nat) (v : V) (d : D) (t : Ty), vs[j]? = some v → ds[j]? = some d → d.ty = some t → TyAt H v t
  | [], _, .nil, j, v, d, t, e, _, _ => by simp at e
  | _ :: _, _, .cons h r, 0, v, d, t, e1, e2, e3 => by
    obtain rfl := Option.some.inj (show some _ = some v from e1)
    obtain rfl := Option.some.inj (show some _ = some d from e2)
    exact DAt.ty h e3
  | _ :: _, _, .cons h r, j + 1, v, d, t, e1, e2, e3 => DsAt.ty r j v d t (by simpa using e1) (by simpa using e2) e3
end
/-! ### what a derivation tells -/
abbrev Told := List Ty × Ty
def madeO : Told → Option Told
  | (row, goal) => if row.length < 2 then none else some (row.dropLast, .n .ov goal (row.getLastD (.w "")))
def madeU : Told → Option Told
  | (a :: b :: r, goal) => some (b :: r, .n .un a goal)
  | _ => none
def thenM (x y : Told) : Told := (x.1 ++ y.1, .n .th x.2 y.2)
def usedAt (nm : Str) (p : Int) (x y : Told) : Option Told :=
  if 0 ≤ p then
    match y.1[p.toNat]? with
    | none => none
    | some k =>
      if nm = "over used" then some (y.1.take p.toNat ++ [.n .ov k x.2] ++ x.1 ++ y.1.drop (p.toNat + 1), y.2)
      else if nm = "under used" then some (y.1.take p.toNat ++ x.1 ++ [.n .un x.2 k] ++ y.1.drop (p.toNat + 1), y.2)
      else if k = x.2 then some (y.1.take p.toNat ++ x.1 ++ y.1.drop (p.toNat + 1), y.2) else none
  else none
def thenU (p : Int) (y : Told) : Option Told :=
  if 0 ≤ p then
    match y.1[p.toNat]?, y.1[p.toNat + 1]? with
    | some a, some b => some (y.1.take p.toNat ++ [.n .th a b] ++ y.1.drop (p.toNat + 2), y.2)
    | _, _ => none
  else none
def both (f : Told → Told → Option Told) : Option Told → Option Told → Option Told
  | some x, some y => f x y
  | _, _ => none
def placed (nm : Str) : Bool := decide (nm = "over used") || decide (nm = "under used") || decide (nm = "cut")
def tellOf (l : List D) (r : List (Option Told)) : Option Told := match l, r with
  | [.s nm, x], [_, rx] => if nm = "is" then x.ty.map fun k => ([k], k) else if nm = "over made" then rx.bind madeO else if nm = "under made" then rx.bind madeU else none
  | [.s nm, x, _], [_, rx, ry] => if nm = "then made" then both (fun a b => some (thenM a b)) rx ry else if nm = "then used" then (match x with | .i p => ry.bind (thenU p) | _ => none) else none
  | [.s nm, .i p, _, _], [_, _, rx, ry] => if placed nm = true then both (usedAt nm p) rx ry else none
  | _, _ => none
mutual
def D.tl : D → Option Told
  | .s _ => none
  | .i _ => none
  | .o => none
  | .t l => tellOf l (tlAll l)
def tlAll : List D → List (Option Told)
  | [] => []
  | d :: r => d.tl :: tlAll r
end
/-! ### the form of a knot -/
def D.formed : D → Bool
  | .t [.s nm, x] => if nm = "is" then x.ty.isSome else decide (nm = "over made") || decide (nm = "under made")
  | .t [.s nm, x, _] => decide (nm = "then made") || (decide (nm = "then used") && match x with | .i p => decide (0 ≤ p) | _ => false)
  | .t [.s nm, x, _, _] => placed nm && match x with | .i p => decide (0 ≤ p) | _ => false
  | _ => false
def D.parts : D → List D
  | .t [.s nm, x] => if nm = "is" then [] else [x]
  | .t [.s nm, x, y] => if nm = "then used" then [y] else [x, y]
  | .t [_, _, x, y] => [x, y]
  | _ => []
def allKOf (l : List D) (r : List Bool) : Bool := (D.t l).formed && match l, r with
  | [.s nm, _], [_, x] => if nm = "is" then true else x
  | [.s nm, _, _], [_, x, y] => if nm = "then used" then y else x && y
  | [_, _, _, _], [_, _, x, y] => x && y
  | _, _ => true
mutual
/-- it and all parts in it have a knot's form -/
def D.allK : D → Bool
  | .s _ => false
  | .i _ => false
  | .o => false
  | .t l => allKOf l (allKs l)
def allKs : List D → List Bool
  | [] => []
  | d :: r => d.allK :: allKs r
end
def nodesOf (l : List D) (r : List (List D)) : List D := D.t l :: match l, r with
  | [.s nm, _], [_, x] => if nm = "is" then [] else x
  | [.s nm, _, _], [_, x, y] => if nm = "then used" then y else y ++ x
  | [_, _, _, _], [_, _, x, y] => y ++ x
  | _, _ => []
mutual
def D.nodes : D → List D
  | .s z => [.s z]
  | .i n => [.i n]
  | .o => [.o]
  | .t l => nodesOf l (nodesLs l)
def nodesLs : List D → List (List D)
  | [] => []
  | d :: r => d.nodes :: nodesLs r
end
end V1

/-! Sets of texts: set(a list of texts), sorted of it. -/
namespace KT
open PySem PySem.Spec PyProof.Rows L2
theorem nodup_len : ∀ (l D : List Str), l.Nodup → (∀ x ∈ l, x ∈ D) → l.length ≤ D.length
  | [], _, _, _ => Nat.zero_le _
  | x :: l, D, h, s => by
    obtain ⟨h1, h2⟩ := List.nodup_cons.mp h
    have hx := s x List.mem_cons_self
    have q := nodup_len l (D.erase x) h2 fun y hy => (List.mem_erase_of_ne (fun e => h1 (by rw [← e]; exact hy))).mpr (s y (List.mem_cons_of_mem _ hy))
    rw [List.length_erase_of_mem hx] at q
    have : 0 < D.length := List.length_pos_of_mem hx
    rw [List.length_cons]
    omega
def keyS (e : Int × Value) : Str := match e.2 with
  | .str k _ => k
  | _ => Str.empty
/-- the texts of ks (some of them told twice) are in the set at a -/
def SetG (P : Program) (w : World) (h : Heap) (a : Addr) (ks : List Str) : Prop :=
  ∃ o es ep t, h.get? a = some o ∧ o.ExactSet ∧ o.data = .set es ep t ∧ (∀ e ∈ es.toList, ∃ k tk, e.2 = Value.str k tk ∧ e.1 = (PySem.strKind P w).hash k) ∧ (es.toList.map keyS).Nodup ∧ (∀ k, k ∈ es.toList.map keyS ↔ k ∈ ks) ∧
    es.size < scanBound ∧ t.fits es.size = true ∧ L2.Ris t.place.toList ∧ (w.params.followText "set-order" = true ∨ t.led = true)
section
variable {P : Program} {w : World} {h h' : Heap} {a : Addr} {ks : List Str}
theorem SetG.at_ (R : SetG P w h a ks) (k : ∀ o, h.get? a = some o → h'.get? a = some o) : SetG P w h' a ks := by
  obtain ⟨o, es, ep, t, ho, r⟩ := R
  exact ⟨o, es, ep, t, k o ho, r⟩
theorem els_of {l : List (Int × Value)} (g : ∀ e ∈ l, ∃ k tk, e.2 = Value.str k tk ∧ e.1 = (PySem.strKind P w).hash k) : ElemsOf (PySem.strKind P w) l := fun e he => by
  obtain ⟨k, tk, h1, h2⟩ := g e he
  exact ⟨⟨k, by rw [h1]; exact strKind_is P w k tk, h2⟩, by rw [h1] <;> rfl⟩
theorem is_key {e : Int × Value} (g : ∃ k tk, e.2 = Value.str k tk ∧ e.1 = (PySem.strKind P w).hash k) (k : Str) : (PySem.strKind P w).is k e.2 = true ↔ keyS e = k := by
  obtain ⟨k0, tk, h1, _⟩ := g
  have hk : (PySem.strKind P w).is k0 e.2 = true := by rw [h1]; exact strKind_is P w k0 tk
  have e0 : keyS e = k0 := by unfold keyS; rw [h1]
  rw [e0]
  constructor
  · intro z
    exact (PySem.strKind P w).inj _ _ _ hk z
  · intro z
    rw [← z]
    exact hk
end
section
variable {P : Program} {w : World} {A : Around} {E : Value → Shared → Prop} {s : Shared} {a : Addr} {ks : List Str}
/-- the end of an addition: the new table is stored, and laid anew where it is too full -/
theorem setG_tail {g : Bool → Sem Unit} (hg : ∀ (b : Bool) (s₁ : Shared) (Q' : Unit → Shared → Prop), Q' () s₁ → wpAny (model P w) A (g b) Q' E s₁)
    {o : Obj} {es : Array (Int × Value)} {ep : Nat} {t : SetTable} (ho : s.heap.get? a = some o) (hex : o.ExactSet) (hd : o.data = .set es ep t)
    {es1 : Array (Int × Value)} {t2 : SetTable} {ks' : List Str} (new : ∀ h' o' es2 ep2 t3, h'.get? a = some o' → o'.ExactSet → o'.data = .set es2 ep2 t3 → es2.toList.Perm es1.toList → t3.fits es2.size = true → L2.Ris t3.place.toList → (w.params.followText "set-order" = true ∨ t3.led = true) → SetG P w h' a ks')
    (hb1 : es1.size < scanBound) (hf2 : t2.fits es1.size = true) (hr : L2.Ris t2.place.toList) (hl : w.params.followText "set-order" = true ∨ t2.led = true) {wasDummy : Bool} {R : Option Bool → Shared → Prop}
    (hR : ∀ h', Heap.SameBut a s.heap h' → SetG P w h' a ks' → R (some true) { s with heap := h' }) :
    wpAny (model P w) A (do
        storeSet a es1 t2
        if (!wasDummy && t2.tooFull) = true then do
            g (relayAll t2 es1 (SetTable.grown es1.size)).2.2
            storeSet a (relayAll t2 es1 (SetTable.grown es1.size)).1 (relayAll t2 es1 (SetTable.grown es1.size)).2.1
            pure (some true)
          else pure (some true)) R E s := by
  refine wpAny_bind (wpAny_storeSet_of ho hd ?_ (fits_of_scanBound hb1))
  have ho1 := store_at (es' := es1) (t' := t2) ho hd
  have sb1 := Heap.SameBut.update s.heap a (Obj.putSet es1 t2)
  split
  · have pm := relayAll_perm t2 es1 (SetTable.grown es1.size)
    have hf3 := relayAll_fits t2 es1 (SetTable.grown es1.size)
    have hr3 := relayAll_ris t2 es1 (SetTable.grown es1.size)
    have hl3 := relayAll_led t2 es1 (SetTable.grown es1.size)
    generalize relayAll t2 es1 (SetTable.grown es1.size) = Z at pm hf3 hr3 hl3 ⊢
    obtain ⟨es2, t3, gave⟩ := Z
    dsimp only at pm hf3 hr3 hl3 ⊢
    have hsz : es2.size = es1.size := by rw [← Array.length_toList, pm.length_eq, Array.length_toList]
    refine wpAny_bind (hg _ _ _ ?_)
    refine wpAny_bind (wpAny_storeSet_of ho1 rfl ?_ (fits_of_scanBound (by rw [hsz]; exact hb1)))
    have ho2 := store_at (es' := es2) (t' := t3) ho1 rfl
    exact wpAny_pure (hR _ (sb1.trans (Heap.SameBut.update _ a _)) (new _ _ es2 _ t3 ho2 hex rfl pm hf3 hr3 (hl.imp id fun z => by rw [hl3]; exact z)))
  · exact wpAny_pure (hR _ sb1 (new _ _ es1 _ t2 ho1 hex rfl (.refl _) hf2 hr hl))
theorem setG_add {k : Str} {tk : Tok} {Q : Bool → Shared → Prop} (R : SetG P w s.heap a ks) (room : ks.length + 2 < scanBound)
    (hQ : ∀ h' b, Heap.SameBut a s.heap h' → SetG P w h' a (ks ++ [k]) → Q b { s with heap := h' }) :
    wpAny (model P w) A (setAddHashed a (.str k tk) ((PySem.strKind P w).hash k)) Q E s := by
  obtain ⟨o, es, ep, t, ho, hex, hd, g, nd, hm, hb, hf, hr, hl⟩ := R
  have hkey : (PySem.strKind P w).is k (.str k tk) = true := strKind_is P w k tk
  have hsc : (Value.str k tk).scannable = true := rfl
  have hel : ElemsOf (PySem.strKind P w) es.toList := els_of g
  have hkm : k ∈ es.toList.map keyS ↔ ∃ e ∈ es.toList, (PySem.strKind P w).is k e.2 = true := by
    rw [List.mem_map]
    exact ⟨fun ⟨e, he, q⟩ => ⟨e, he, (is_key (g e he) k).2 q⟩, fun ⟨e, he, q⟩ => ⟨e, he, (is_key (g e he) k).1 q⟩⟩
  unfold setAddHashed setAddHashedIn
  refine wpAny_holding (wpAny_bind (wpAny_setState_of ho hd hf ?_))
  dsimp only
  rw [byScan_of hsc hb hel]
  simp only [↓reduceIte]
  unfold setAddByScan
  refine wpAny_bind ?_
  refine wpAny_bind (wpAny_rule ?_)
  refine wpAny_bind (wpAny_setScan_of hkey ho hd hf hel ?_)
  cases hfi : List.findIdx? (fun e => (PySem.strKind P w).is k e.2) es.toList with
  | some j =>
    dsimp only
    obtain ⟨hj, pj, _⟩ := List.findIdx?_eq_some_iff_getElem.mp hfi
    have hk : k ∈ ks := (hm k).1 (hkm.2 ⟨es.toList[j], List.getElem_mem hj, pj⟩)
    refine wpAny_pure (wpAny_pure ?_)
    exact hQ s.heap _ (Heap.SameBut.refl a s.heap) ⟨o, es, ep, t, ho, hex, hd, g, nd, fun i => by
      rw [hm i, List.mem_append, List.mem_singleton]
      exact ⟨.inl, fun z => z.elim id fun e => e ▸ hk⟩, hb, hf, hr, hl⟩
  | none =>
    dsimp only
    have hnk : k ∉ es.toList.map keyS := fun z => by
      obtain ⟨e, he, q⟩ := hkm.1 z
      have c := List.findIdx?_eq_none_iff.mp hfi e he
      rw [q] at c
      cases c
    have hgw : ∀ (b : Bool) {s₁ : Shared} {Q' : Unit → Shared → Prop}, Q' () s₁ → wpAny (model P w) A (match b with | true => rule "set.scan.the-table-gave-way" | false => pure ()) Q' E s₁ :=
      fun b s₁ Q' q => by cases b <;> first | exact wpAny_pure q | exact wpAny_rule q
    have pm := layNew_perm t es ((PySem.strKind P w).hash k) (.str k tk)
    have hf1 := layNew_fits t es ((PySem.strKind P w).hash k) (.str k tk)
    have hr1 := layNew_ris t es ((PySem.strKind P w).hash k) (.str k tk) hr
    have hl1 := layNew_led t es ((PySem.strKind P w).hash k) (.str k tk)
    generalize layNew t es ((PySem.strKind P w).hash k) (.str k tk) = Z at pm hf1 hr1 hl1 ⊢
    obtain ⟨es1, t1, wasDummy, gave⟩ := Z
    dsimp only at pm hf1 hr1 hl1 ⊢
    rw [Array.toList_push] at pm
    have pc : es1.toList.Perm (((PySem.strKind P w).hash k, Value.str k tk) :: es.toList) := pm.trans (List.perm_append_singleton _ _)
    have hlen : (es.toList.map keyS).length ≤ ks.length := nodup_len _ _ nd fun x hx => (hm x).1 hx
    have hes : es1.size = es.size + 1 := by rw [← Array.length_toList, pc.length_eq, List.length_cons, Array.length_toList]
    have hle : es.size ≤ ks.length := by rw [List.length_map, Array.length_toList] at hlen; exact hlen
    have hb1 : es1.size < scanBound := by rw [hes]; omega
    have hled : w.params.followText "set-order" = true ∨ t1.led = true := hl.imp id fun z => by rw [hl1]; exact z
    have new : ∀ h' o' es2 ep2 t3, h'.get? a = some o' → o'.ExactSet → o'.data = .set es2 ep2 t3 → es2.toList.Perm es1.toList → t3.fits es2.size = true → L2.Ris t3.place.toList → (w.params.followText "set-order" = true ∨ t3.led = true) → SetG P w h' a (ks ++ [k]) := by
      intro h' o' es2 ep2 t3 e1 e2 e3 p f r l
      have pa := p.trans pc
      have pk : (es2.toList.map keyS).Perm (k :: es.toList.map keyS) := pa.map keyS
      refine ⟨o', es2, ep2, t3, e1, e2, e3, fun e he => ?_, pk.nodup_iff.mpr (List.nodup_cons.mpr ⟨hnk, nd⟩), fun i => ?_, ?_, f, r, l⟩
      · rcases List.mem_cons.mp (pa.mem_iff.mp he) with z | z
        · rw [z]; exact ⟨k, tk, rfl, rfl⟩
        · exact g e z
      · rw [pk.mem_iff, List.mem_cons, hm i, List.mem_append, List.mem_singleton]
        exact Or.comm
      · have : es2.size = es1.size := by rw [← Array.length_toList, p.length_eq, Array.length_toList]
        rw [this]
        exact hb1
    refine wpAny_bind (hgw _ ?_)
    split
    · refine wpAny_bind ?_
      rw [hashByValue_scannable 8 hsc]
      refine wpAny_pure ?_
      refine setG_tail (ks' := ks ++ [k]) ?_ ho hex hd new hb1 ?_ ?_ ?_ ?_
      · intro b s₁ Q' q; cases b <;> first | exact wpAny_pure q | exact wpAny_rule q
      · first | (split <;> first | exact hf1 | exact SetTable.fits_plain_off hf1) | exact hf1
      · first | (split <;> exact hr1) | exact hr1
      · first | (split <;> exact hled) | exact hled
      · intro h' sb r; dsimp only; exact wpAny_pure (hQ h' _ sb r)
    · refine wpAny_bind (wpAny_pure ?_)
      simp only [↓reduceIte]
      refine setG_tail (ks' := ks ++ [k]) ?_ ho hex hd new hb1 hf1 hr1 hled ?_
      · intro b s₁ Q' q; cases b <;> first | exact wpAny_pure q | exact wpAny_rule q
      · intro h' sb r; dsimp only; exact wpAny_pure (hQ h' _ sb r)
theorem setG_fresh {h : Heap} (ho : h.get? a = some { cls := .type "set", dict := none, data := .set #[] 0 (.fresh 0 0 (!w.params.followText "set-order")) }) : SetG P w h a [] :=
  ⟨_, #[], 0, _, ho, ⟨rfl, rfl, rfl⟩, rfl, (fun e he => by simp at he), (by simp), (fun k => by simp), (by decide), (by rfl), List.Pairwise.nil, by
    show _ ∨ (!w.params.followText "set-order") = true
    cases w.params.followText "set-order"
    · exact .inr rfl
    · exact .inl rfl⟩
/-- the loop that puts the texts in -/
theorem set_update_strs {I : Addr} {fp wr : List Addr} {G : Array GenState → Array GenState → Prop} {n : Nat} {Pv : Nat → Value → Prop} {St : Nat → Shared → Prop} {R : Result → Shared → Prop}
    (W : WalksS P w A.in1 I fp wr G n Pv St) (S : Addr) (hSf : S ∉ fp) (xs : List Str) (hn : n = xs.length) (hfew : xs.length + 2 < scanBound) (hval : ∀ i v, Pv i v → ∃ t, v = .str (xs.getD i Str.empty) t) :
    ∀ (k i : Nat) (s : Shared), n - i = k → i ≤ n → St i s → SetG P w s.heap S (xs.take i) →
      (∀ s', Moved (S :: wr) G s s' → SetG P w s'.heap S xs → R (.ok (.ret .none)) s') →
      codeAny (model P w) A (.builtin "set.update.loop" ⟨[.ref S, .ref I], []⟩) R s := by
  have hSw : S ∉ wr := fun h => hSf (W.sub _ h)
  have hsub : ∀ b ∈ wr, b ∈ S :: wr := fun b hb => List.mem_cons_of_mem _ hb
  intro k
  induction k with
  | zero =>
    intro i s hk hi hst hS hR
    have hin : i = n := by omega
    subst hin
    refine codeAny_builtin PyProof.Rows.F.entry_set_update_loop ?_
    rw [Around.under_plainId PyProof.Rows.F.plain_set_update_loop _]
    show wpAny _ A.in1 (pyNext (.ref I) >>= _) _ _ s
    refine wpAny_bind (W.done s _ _ hst fun s' hm => ?_)
    show wpAny _ A.in1 (ret Value.none) _ _ s'
    rw [hn, List.take_length] at hS
    exact wpAny_pure (hR s' (hm.mono hsub) (hS.at_ fun o e => hm.heap S o hSw e))
  | succ k ih =>
    intro i s hk hi hst hS hR
    have hlt : i < n := by omega
    refine codeAny_builtin PyProof.Rows.F.entry_set_update_loop ?_
    rw [Around.under_plainId PyProof.Rows.F.plain_set_update_loop _]
    show wpAny _ A.in1 (pyNext (.ref I) >>= _) _ _ s
    refine wpAny_bind (W.item i s _ _ hlt hst fun v s' hP hst' hm => ?_)
    obtain ⟨t, rfl⟩ := hval i v hP
    have hS' : SetG P w s'.heap S (xs.take i) := hS.at_ fun o e => hm.heap S o hSw e
    show wpAny _ A.in1 (holding [Value.str (xs.getD i Str.empty) t] (setAdd S (.str (xs.getD i Str.empty) t)) >>= _) _ _ s'
    refine wpAny_bind (wpAny_holding ?_)
    unfold setAdd
    refine wpAny_holding ?_
    refine wpAny_bind ((PySem.strKind P w).pyHash (k := xs.getD i Str.empty) (strKind_is _ _ _ _) ?_)
    refine setG_add (s := { s' with toks := s'.toks + 1 }) hS' (by rw [List.length_take]; omega) fun h' b hsb hS2 => ?_
    have et : xs.take i ++ [xs.getD i Str.empty] = xs.take (i + 1) := by
      rw [List.take_add_one]
      have q : xs[i]? = some (xs.getD i Str.empty) := by
        have l : i < xs.length := by omega
        simp [List.getD, l]
      rw [q]
      rfl
    rw [et] at hS2
    refine wpAny_pure ⟨plainId_quiet PyProof.Rows.F.plain_set_update_loop _, ih (i + 1) _ (by omega) hlt (W.frame _ s' _ _ hst' (Nat.le_succ _) fun b hb o e => ?_) hS2 fun s'' hm'' hS'' => ?_⟩
    · rw [hsb.2 b (fun h : b = S => hSf (by rw [← h]; exact hb))]; exact e
    · refine hR s'' (Moved.trans W.gtrans ((hm.mono hsub).then_heap (Nat.le_succ _) fun b o hb e => ?_) hm'') hS''
      rw [hsb.2 b (fun h : b = S => hb (by rw [h]; exact List.mem_cons_self))]; exact e
set_option maxHeartbeats 3200000 in
/-- set(a list of texts) -/
theorem call_set_strs {l : Addr} {items : Array Value} {xs : List Str} {Q : Value → Shared → Prop} (hh : A.handled = none) (hl : s.heap.IsList l items) (hi : PyProof.Rows.StrsAre items.toList xs) (hfew : xs.length + 2 < scanBound)
    (h : ∀ (h' : Heap) (tk : Nat), SetG P w h' s.heap.objs.size xs → (∀ b o, s.heap.get? b = some o → h'.get? b = some o) → Q (.ref s.heap.objs.size) { s with heap := h', toks := tk }) :
    wpAny (model P w) A (call (.type "set") [.ref l]) Q E s := by
  obtain ⟨c, tl, hmro⟩ := PySem.F.called_set.mro
  have hmade := PySem.F.called_set.made
  have hsub := PySem.F.called_set.sub
  refine wpAny_call (codeAny_of_tree ?_)
  show wpAny _ _ (callAny (.type "set") _) _ _ _
  refine wpAny_pure ⟨Code.quiet_builtin _ (by decide +kernel), codeAny_builtin PySem.F.entry_type_call ?_⟩
  rw [Around.under_plain (weight_type_call_type "set" [.ref l] []) rfl]
  have h1 := PySem.F.called_set.notType
  have h2 := PySem.F.called_set.canCreate
  have hct := PySem.F.typeCall_set_1 (.ref l)
  repeat (any_goals (first | assumption | wp_step))

  refine codeAny_mono (L2.code_set_led1 (.ref l) (E := E) (Q₁ := fun obj s₁ => obj = .ref s.heap.objs.size ∧ s₁ = { s with heap := s.heap.push { cls := .type "set", dict := none, data := .set #[] 0 (.fresh 0 0 (!w.params.followText "set-order")) } }) ⟨rfl, rfl⟩) fun r s₁ hr => ?_
  match r, hr with
  | .error e, hr => exact hr
  | .ok .next, hr => exact hr.elim
  | .ok .brk, hr => exact hr.elim
  | .ok .cont, hr => exact hr.elim
  | .ok (.ret obj), hr =>
      obtain ⟨rfl, rfl⟩ := hr
      have hS : (s.heap.push { cls := .type "set", dict := none, data := .set #[] 0 (.fresh 0 0 (!w.params.followText "set-order")) }).get? s.heap.objs.size = some { cls := .type "set", dict := none, data := .set #[] 0 (.fresh 0 0 (!w.params.followText "set-order")) } := Heap.get?_push_size _ rfl
      have hT : Shared.TypeIs { s with heap := s.heap.push { cls := .type "set", dict := none, data := .set #[] 0 (.fresh 0 0 (!w.params.followText "set-order")) } } (.ref s.heap.objs.size) "set" := ⟨_, hS, rfl⟩
      have hli := PySem.F.called_set.init.lookup
      have hbi := PySem.F.called_set.init.bind (.ref s.heap.objs.size)
      repeat (any_goals (first | assumption | wp_step))

      refine codeAny_mono (codeAny_call_builtin (R := wants (fun r s₂ => r = .none ∧ ∃ h' tk, s₂ = { s with heap := h', toks := tk } ∧ SetG P w h' s.heap.objs.size xs ∧ (∀ b o, s.heap.get? b = some o → h'.get? b = some o)) E)
        PySem.F.called_set.init.plain PySem.F.entry_set_init (check_set_init_1 hT ?_)) fun r₂ s₂ hr₂ => ?_
      · obtain ⟨ol, hol, hcl, nl, hdl⟩ := hl
        obtain ⟨ocls, odict, odata, oslots⟩ := ol
        simp only at hcl hdl
        subst hcl; subst hdl
        have hol' : (s.heap.push { cls := .type "set", dict := none, data := .set #[] 0 (.fresh 0 0 (!w.params.followText "set-order")) }).get? l = some { cls := .type "list", dict := odict, data := .seq items nl, slots := oslots } := Heap.get?_push_of_some _ hol
        have hsls := PySem.F.sub_list_set
        have hslf := PySem.F.sub_list_frozenset
        have hne : (Value.type "list" == Value.type "dict") = false := by decide
        have hl1 : (s.heap.push { cls := .type "set", dict := none, data := .set #[] 0 (.fresh 0 0 (!w.params.followText "set-order")) }).IsList l items := ⟨_, hol', rfl, nl, rfl⟩
        unfold Builtin.«set.__init__» noKeywords Builtin.Frozenset.updateFrom
        generalize hPI : pyIter = PI
        wp_walk
        subst hPI

        refine wpAny_pyIter_list hl1 ?_
        refine wpAny_bind (wpAny_runValue ?_)
        have hlS : l < s.heap.objs.size := Heap.lt_size hol
        have hh3 : A.in1.in1.in1.handled = none := by simp [hh]
        have hneI : l ≠ (s.heap.push { cls := .type "set", dict := none, data := .set #[] 0 (.fresh 0 0 (!w.params.followText "set-order")) }).objs.size := by
          rw [Heap.size_push]; exact Nat.ne_of_lt (Nat.lt_succ_of_lt hlS)
        have hSf : s.heap.objs.size ∉ [(s.heap.push { cls := .type "set", dict := none, data := .set #[] 0 (.fresh 0 0 (!w.params.followText "set-order")) }).objs.size, l] := by
          rw [Heap.size_push]; simp only [List.mem_cons, List.mem_singleton, List.not_mem_nil, or_false, not_or]
          exact ⟨Nat.ne_of_lt (Nat.lt_succ_self _), Nat.ne_of_gt hlS⟩
        have hsz : xs.length = items.size := by rw [← StrsAre.len_eq hi, Array.length_toList]
        have hval : ∀ (i : Nat) (v : Value), items[i]? = some v → ∃ t, v = .str (xs.getD i Str.empty) t := fun i v hv => SS.strs_at hi i v (by rw [Array.getElem?_toList]; exact hv)
        refine set_update_strs ((Walks.list hh3 _ l hneI items).toS) s.heap.objs.size
          hSf xs hsz.symm hfew hval (items.size - 0) 0 _ (by omega) (Nat.zero_le _)
          ⟨⟨_, Heap.get?_push_size _ rfl, rfl, rfl⟩, (hl1.push _)⟩ ?hS0 ?hR
        case hS0 =>
          exact setG_fresh (Heap.get?_push_of_some _ hS)
        case hR =>
          intro s' hm hS'
          obtain ⟨h', g', d', tk', os'⟩ := s'
          have eg : g' = s.gens := hm.gens
          have ed : d' = s.drawn := hm.drawn
          have eo : os' = s.os := hm.os
          subst eg; subst ed; subst eo
          show wpAny _ _ _ _ _ _
          refine wpAny_pure ?_
          show wpAny _ _ (ret Value.none) _ _ _
          refine wpAny_pure ⟨rfl, h', tk', rfl, hS', fun b o e => ?_⟩
          have hb := Heap.lt_size e
          have hb1 : b ≠ s.heap.objs.size := Nat.ne_of_lt hb
          have hb2 : b ≠ (s.heap.push { cls := .type "set", dict := none, data := .set #[] 0 (.fresh 0 0 (!w.params.followText "set-order")) }).objs.size := by
            rw [Heap.size_push]; exact Nat.ne_of_lt (Nat.lt_succ_of_lt hb)
          exact hm.heap b o (by simp only [List.mem_cons, List.mem_singleton, List.not_mem_nil, or_false, not_or]; exact ⟨hb1, hb2⟩) (Heap.get?_push_of_some _ (Heap.get?_push_of_some _ e))
      · match r₂, hr₂ with
        | .error e, hr₂ => exact hr₂
        | .ok .next, hr₂ => exact hr₂.elim
        | .ok .brk, hr₂ => exact hr₂.elim
        | .ok .cont, hr₂ => exact hr₂.elim
        | .ok (.ret r), hr₂ =>
          obtain ⟨rfl, h', tk, rfl, hS', hk'⟩ := hr₂
          repeat (any_goals (first | assumption | wp_step))
          exact h _ _ hS' hk'
end
end KT

namespace KT
open PySem PySem.Spec PyProof.Rows L2
section
variable {P : Program} {w : World} {A : Around} {E : Value → Shared → Prop} {s : Shared} {a : Addr} {ks : List Str}
theorem strs_of : ∀ (l : List Value), (∀ v ∈ l, ∃ k tk, v = Value.str k tk) → StrsAre l (l.map fun v => keyS (0, v))
  | [], _ => .nil
  | v :: l, h => by
    obtain ⟨k, tk, rfl⟩ := h v List.mem_cons_self
    exact .cons k tk (strs_of l fun u hu => h u (List.mem_cons_of_mem _ hu))
/-- sorted(a set of texts) -/
theorem sorted_setG {Q : Value → Shared → Prop} (R : SetG P w s.heap a ks) (hh : A.handled = none)
    (hQ : ∀ s' p (out : Array Value) (c : Nat) (ys : List Str), (∀ b o, s.heap.get? b = some o → s'.heap.get? b = some o) → s'.gens = s.gens → s'.os = s.os → s.heap.objs.size ≤ p →
      s'.heap.get? p = some (seqObj "list" out c) → StrsAre out.toList ys → sortedS ys = true → ys.Nodup → (∀ k, k ∈ ys ↔ k ∈ ks) → ys.length ≤ 4096 → Q (.ref p) s') :
    wpAny (model P w) A (call (.builtin "sorted") [.ref a]) Q E s := by
  obtain ⟨o, es, ep, t, ho, hex, hd, g, nd, hm, hb, hf, hr, hl⟩ := R
  refine Calls.call_function_entry kind_sorted plain_sorted entry_sorted (args_sorted1 _) ?_
  unfold Builtin.«sorted»
  refine wpAny_bind (m := checkCount "sorted" 1 1 _) (wpAny_pure ?_)
  refine wpAny_bind (collect_set (A := A.in1) hh ⟨o, ho, hex.1, hd⟩ hf hb hr hl fun s1 vs k1 hz g1 o1 pm => ?_)
  have hvl : vs.length = es.size := by rw [pm.length_eq, List.length_map, Array.length_toList]
  have hb' : es.size < 4096 := hb
  have hS : StrsAre vs (vs.map fun v => keyS (0, v)) := strs_of vs fun v hv => by
    obtain ⟨e, he, q⟩ := List.mem_map.mp (pm.mem_iff.mp hv)
    obtain ⟨k, tk, h1, _⟩ := g e he
    exact ⟨k, tk, by rw [← q]; exact h1⟩
  have pk : (vs.map fun v => keyS (0, v)).Perm (es.toList.map keyS) := by
    have q := pm.map fun v => keyS (0, v)
    rw [List.map_map] at q
    exact q
  refine wpAny_bind (wpAny_newList ?_ (by rw [hvl, sizeLine_eq]; omega))
  have hoL : (s1.heap.push (seqObj "list" vs.toArray 0)).get? s1.heap.objs.size = some (seqObj "list" vs.toArray 0) := Heap.get?_push_size _ rfl
  refine wpAny_bind (wpAny_holding (wpAny_call_entry slot_list_sort ⟨_, hoL, rfl⟩ entry_list_sort (list_sort_treeKAny strKind_oneLt hoL hS.keysOf (fun v₁ v₂ rest e => keyKind_strs (by rw [← e]; exact hS)) (by rw [hvl, sizeLine_eq]; omega) fun st' hp hs => ⟨_, rfl, ?_⟩) (args_list_sort _)))
  obtain ⟨ys, a1, a2, a3⟩ := sorted_out_str hS hp hs
  obtain ⟨c, hc⟩ := sortedHeap_at (vs := vs) (out := (arrOf st').map (·.2)) hoL
  have pn : ys.Perm (es.toList.map keyS) := a2.trans pk
  refine wpAny_pure ⟨_, rfl, hQ _ s1.heap.objs.size _ c ys (fun b u e => ?_) g1 o1 hz hc a1 a3 (pn.nodup_iff.mpr nd) (fun k => by rw [pn.mem_iff, hm k]) ?_⟩
  · have q := k1 b u e
    have hlt := Heap.lt_size q
    show (sortedHeap (s1.heap.push (seqObj "list" vs.toArray 0)) s1.heap.objs.size vs _).get? b = some u
    rw [sortedHeap_old (Nat.ne_of_lt hlt) (by rw [size_push']; exact Nat.lt_succ_of_lt hlt)]
    exact Heap.get?_push_of_some _ q
  · rw [pn.length_eq, List.length_map, Array.length_toList]
    omega
end
/-- the set of texts at a -/
def SetGO (P : Program) (w : World) (a : Addr) (ks : List Str) : HO := .ext fun h => SetG P w h a ks
section
variable {X : Cx}
theorem setGO_new {w : World} {P : Program} {H : Hp} {h : Heap} {a : Addr} {ks : List Str} (R : SetG P w h a ks) : ObjOk P w H h a (SetGO P w a ks) := by
  have ⟨o, _, _, _, ho, _⟩ := R
  exact ⟨R, ⟨o, ho⟩, fun h1 h2 p k => SetG.at_ p k⟩
/-- set(xs), texts -/
theorem cr_setG (hc : X.calm = true) : CallR X (.type "set") (fun vs H Q => ∃ (l : Addr) (xs : List Str), vs = [.ref l] ∧ SqL X.K H l (xs.map V.str) ∧ xs.length ≤ 4000 ∧ ∀ p, H p = none → Q (.ref p) (upd H p (SetGO X.prog X.w p xs))) := by
  intro pins s σ H vs us Q I r h
  obtain ⟨l, xs, rfl, hs, hz, q⟩ := h
  obtain ⟨its, rv, hl, _⟩ := I.list hs
  rw [Vals.ref1 r]
  refine call_set_strs (I.ok.hd hc) hl.isList rv.strs (by show xs.length + 2 < 4096; omega) fun h' tk R hk => ?_
  exact ⟨.ref s.heap.objs.size, upd H s.heap.objs.size (SetGO X.prog X.w s.heap.objs.size xs), I.laid (t' := tk) hk (Nat.le_refl _) (setGO_new R), rfl, q _ (I.hok.fresh (Nat.le_refl _))⟩
/-- sorted(a set of texts) -/
theorem cr_sortedG (hc : X.calm = true) : CallR X (.builtin "sorted") (fun vs H Q => ∃ (a : Addr) (ks : List Str), vs = [.ref a] ∧ H a = some (SetGO X.prog X.w a ks) ∧
    ∀ (ys : List Str) (p : Addr), sortedS ys = true → ys.Nodup → (∀ k, k ∈ ys ↔ k ∈ ks) → H p = none → Q (.ref p) (upd H p (.lst (ys.map V.str)))) := by
  intro pins s σ H vs us Q I r h
  obtain ⟨a, ks, rfl, ha, q⟩ := h
  have R : SetG X.prog X.w s.heap a ks := (I.hok a _ ha).1
  rw [Vals.ref1 r]
  refine sorted_setG R (I.ok.hd hc) fun s' p out c ys k g o hp hg hi hs hn hm hl => ?_
  have hlen : (ys.map V.str).length ≤ sizeLine := by rw [List.length_map, sizeLine_eq]; omega
  have hn' : H p = none := I.hok.fresh hp
  have J : Inv X pins σ (upd H p (.lst (ys.map V.str))) { s with heap := s'.heap, gens := s'.gens, drawn := s'.drawn, toks := s'.toks } :=
    I.call (ch := []) (Un.laid k hp hn') (I.hok.laid k hp ⟨hlen, out.toList, c, vals_of_strs hi, hg⟩) (by rw [g]; exact I.bare) (fun _ z => nomatch z)
  have e : s' = { s with heap := s'.heap, gens := s'.gens, drawn := s'.drawn, toks := s'.toks } := by
    cases s'
    cases s
    cases o
    rfl
  rw [e]
  exact ⟨.ref p, _, J, rfl, q ys p hs hn hm hn'⟩
end
end KT

/-! sum(a list of lists, []) -/
namespace KT
open PySem PySem.Spec PyProof.Rows L2
theorem sub_lst_str : isSubtype (.type "list") (.type "str") = pure false := by rw [isSubtype_type]; kernel_rfl
theorem sub_lst_bytes : isSubtype (.type "list") (.type "bytes") = pure false := by rw [isSubtype_type]; kernel_rfl
theorem sub_lst_bytearray : isSubtype (.type "list") (.type "bytearray") = pure false := by rw [isSubtype_type]; kernel_rfl
theorem args_sum2 (a b : Value) : argsOk "sum" ⟨[a, b], []⟩ := by unfold argsOk; kernel_rfl
def Inner (h : Heap) (its : Array Value) (xss : List (List Value)) : Prop := ∀ (i : Nat) (v : Value), its[i]? = some v → ∃ (a : Addr) (n : Nat) (xs : List Value), v = .ref a ∧ xss[i]? = some xs ∧ IsL h a xs.toArray n
section
variable {prog : Program} {w : World} {A : Around} {R : Result → Shared → Prop} {I l : Addr} {its : Array Value} {xss : List (List Value)}
theorem loop_sumL (hh : A.handled = none) (hne : l ≠ I) (hl : xss.length = its.size) (hz : xss.flatten.length ≤ sizeLine) (S T0 b0 : Addr) (hSI : S ≠ I) (hSl : S ≠ l) (hb : b0 ≤ S) (hI : b0 ≤ I) :
    ∀ (k i : Nat) (s : Shared) (T : Addr) (c cT : Nat), its.size - i = k → i ≤ its.size → (s.heap.IsListIter I l i ∧ s.heap.IsList l its) → s.heap.get? S = some { cls := .type "list", dict := none, data := .seq #[.ref T] c, slots := #[] } →
    IsL s.heap T (xss.take i).flatten.toArray cT → T ≠ S → T ≠ I → (i = 0 ∧ T = T0 ∨ b0 ≤ T) →
    (∀ (j : Nat) (v : Value), its[j]? = some v → ∃ (a : Addr) (n : Nat) (xs : List Value), v = .ref a ∧ a ≠ S ∧ a ≠ I ∧ xss[j]? = some xs ∧ IsL s.heap a xs.toArray n) →
    (∀ h' tk T' c', (∀ b o, b ≠ I → b ≠ S → s.heap.get? b = some o → h'.get? b = some o) → (its.size = 0 ∧ T' = T0 ∨ b0 ≤ T') → IsL h' T' xss.flatten.toArray c' → R (.ok (.ret (.ref T'))) { s with heap := h', toks := tk }) →
    codeAny (model prog w) A (.builtin "sum.loop" ⟨[.ref I, .ref S, rawInt 2, rawInt 0], []⟩) R s := by
  have W := Walks.list (prog := prog) (w := w) (A := A.in1) hh I l hne its
  intro k
  induction k with
  | zero =>
    intro i s T c cT hk hi hst hS hT hTS hTI hT0 hin hR
    have hin : i = its.size := by omega
    subst hin
    refine codeAny_builtin F.entry_sum_loop ?_
    rw [Around.under_plainId F.plain_sum_loop _]
    show wpAny _ A.in1 (seqItems? (.ref S) >>= _) _ _ s
    refine wpAny_bind (wpAny_seqItems hS rfl ?_)
    show wpAny _ A.in1 (tryCatch (pyNext (.ref I)) _ >>= _) _ _ s
    refine wpAny_bind (wpAny_tryCatch (W.done s _ _ hst fun h' tk hk' => ?_))
    have hk2 : ∀ b o, b ≠ I → s.heap.get? b = some o → h'.get? b = some o := fun b o hb e => hk' b o (by simpa using hb) e
    refine wpAny_pure (hR h' tk T cT (fun b o hbI _ e => hk2 b o hbI e) hT0 ?_)
    rw [← hl, List.take_length] at hT
    exact hk2 T _ hTI hT
  | succ k ih =>
    intro i s T c cT hk hi hst hS hT hTS hTI hT0 hin hR
    have hlt : i < its.size := by omega
    refine codeAny_builtin F.entry_sum_loop ?_
    rw [Around.under_plainId F.plain_sum_loop _]
    show wpAny _ A.in1 (seqItems? (.ref S) >>= _) _ _ s
    refine wpAny_bind (wpAny_seqItems hS rfl ?_)
    show wpAny _ A.in1 (tryCatch (pyNext (.ref I)) _ >>= _) _ _ s
    refine wpAny_bind (wpAny_tryCatch (W.item i s _ _ hlt hst fun v h' tk hP hst' hk' => ?_))
    have hk2 : ∀ b o, b ≠ I → s.heap.get? b = some o → h'.get? b = some o := fun b o hb e => hk' b o (by simpa using hb) e
    obtain ⟨a, n, xs, rfl, haS, haI, hxs, hax⟩ := hin i v hP
    have hS' := hk2 S _ hSI hS
    have hT' : IsL h' T (xss.take i).flatten.toArray cT := hk2 T _ hTI hT
    have hax' : IsL h' a xs.toArray n := hk2 a _ haI hax
    have fl : (xss.take (i + 1)).flatten = (xss.take i).flatten ++ xs := by rw [List.take_add_one, hxs, List.flatten_append]; simp
    have hsz : (xss.take i).flatten.toArray.size + xs.toArray.size ≤ sizeLine := by
      have q : (xss.take (i + 1)).flatten.length ≤ xss.flatten.length := by
        conv => rhs; rw [← List.take_append_drop (i + 1) xss, List.flatten_append, List.length_append]
        omega
      rw [fl, List.length_append] at q
      rw [List.size_toArray, List.size_toArray]
      omega
    show wpAny _ A.in1 ((holding [Value.ref a] (binaryOp .Add (.ref T) (.ref a))).attempt >>= _) _ _ _
    refine wpAny_bind (wpAny_attempt (wpAny_holding (PySem.P.add_list hT' hax' ?_ hsz)))
    generalize hp : Heap.push h' { cls := .type "list", data := .seq ((xss.take i).flatten.toArray ++ xs.toArray) } = h2
    have hpo : ∀ b o, h'.get? b = some o → h2.get? b = some o := fun b o e => by rw [← hp]; exact Heap.get?_push_of_some _ e
    have hN : IsL h2 h'.objs.size ((xss.take (i + 1)).flatten).toArray 0 := by
      rw [fl, ← hp]
      have e : ((xss.take i).flatten ++ xs).toArray = (xss.take i).flatten.toArray ++ xs.toArray := by simp
      rw [e]
      exact Heap.get?_push_size _ rfl
    have hS2 := hpo S _ hS'
    have ltS : S < h'.objs.size := Heap.lt_size hS'
    have ltI : I < h'.objs.size := by obtain ⟨o, e, _⟩ := hst'.1; exact Heap.lt_size e
    have ltl : l < h'.objs.size := by obtain ⟨o, e, _⟩ := hst'.2; exact Heap.lt_size e
    show wpAny _ A.in1 (updateSeq S (fun _ => #[.ref h'.objs.size]) >>= _) _ _ _
    refine wpAny_bind (wpAny_updateSeq (s := { s with heap := h2, toks := tk }) hS2 rfl ?_)
    have hS3 := Heap.get?_update_self (Obj.mapSeq fun _ => #[Value.ref h'.objs.size]) hS2 rfl
    refine wpAny_bind (wpAny_letGo ?_)
    refine wpAny_bind (wpAny_updateSeq (s := { s with heap := h2.update S (Obj.mapSeq fun _ => #[Value.ref h'.objs.size]), toks := tk }) hS3 rfl ?_)
    have old : ∀ b o, b ≠ S → h'.get? b = some o → ((h2.update S (Obj.mapSeq fun _ => #[Value.ref h'.objs.size])).update S (Obj.mapSeq fun _ => #[Value.ref h'.objs.size])).get? b = some o := fun b o hb e =>
      (Heap.get?_update_other _ _ (Ne.symm hb)).trans ((Heap.get?_update_other _ _ (Ne.symm hb)).trans (hpo b o e))
    refine wpAny_pure ⟨plainId_quiet F.plain_sum_loop _, ih (i + 1) _ h'.objs.size _ 0 (by omega) hlt ⟨hst'.1.at fun o e => old I o hSI.symm e, hst'.2.at fun o e => old l o hSl.symm e⟩ (Heap.get?_update_self _ hS3 rfl) ?_ (Nat.ne_of_gt ltS) (Nat.ne_of_gt ltI) (.inr (Nat.le_trans hb (Nat.le_of_lt ltS))) (fun j v hj => ?_) fun h'' tk'' T' c' hk'' hb' hT'' => ?_⟩
    · exact (Heap.get?_update_other _ _ (Nat.ne_of_lt ltS)).trans ((Heap.get?_update_other _ _ (Nat.ne_of_lt ltS)).trans hN)
    · obtain ⟨a', n', xs', e1, e2, e3, e4, e5⟩ := hin j v hj
      exact ⟨a', n', xs', e1, e2, e3, e4, old a' _ e2 (hk2 a' _ e3 e5)⟩
    · exact hR h'' tk'' T' c' (fun b o hbI hbS e => hk'' b o hbI hbS (old b o hbS (hk2 b o hbI e))) hb' hT''
end
section
variable {prog : Program} {w : World} {A : Around} {E : Value → Shared → Prop} {s : Shared} {l T0 : Addr} {its : Array Value} {xss : List (List Value)}
theorem call_sumL {Q : Value → Shared → Prop} {c0 : Nat} (hh : A.handled = none) (hl : s.heap.IsList l its) (hi : Inner s.heap its xss) (hlen : xss.length = its.size) (hz : xss.flatten.length ≤ sizeLine) (h0 : IsL s.heap T0 #[] c0)
    (h : ∀ h' tk T' c', (∀ b o, s.heap.get? b = some o → h'.get? b = some o) → (its.size = 0 ∧ T' = T0 ∨ s.heap.objs.size ≤ T') → IsL h' T' xss.flatten.toArray c' → Q (.ref T') { s with heap := h', toks := tk }) :
    wpAny (model prog w) A (call (.builtin "sum") [.ref l, .ref T0]) Q E s := by
  refine call_function_tree F.kind_sum F.plain_sum F.entry_sum (args_sum2 _ _) ?_
  unfold Builtin.«sum»
  simp only [List.length_cons, List.length_nil]
  rw [if_neg (by decide)]
  refine wpAny_bind (wpAny_of_eq (show Builtin.Builtins.bindParams "sum" ["start"] 0 ⟨[.ref T0], []⟩ = pure [some (.ref T0)] from rfl) ?_)
  have hlt : l < s.heap.objs.size := by obtain ⟨_, e, _⟩ := hl; exact Heap.lt_size e
  refine wpAny_bind (wpAny_pyIter_list hl ?_)
  refine wpAny_bind (wpAny_pure ?_)
  generalize hp : s.heap.push { cls := .type "list_iterator", data := .fields #[.ref l, .int 0 0] } = h2
  have hpo : ∀ b o, s.heap.get? b = some o → h2.get? b = some o := fun b o e => by rw [← hp]; exact Heap.get?_push_of_some _ e
  have hIt : h2.IsListIter s.heap.objs.size l 0 := by rw [← hp]; exact ⟨_, Heap.get?_push_size _ rfl, rfl, rfl⟩
  have hT : Shared.TypeIs { s with heap := h2 } (.ref T0) "list" := ⟨_, hpo _ _ h0, rfl⟩
  have s2 : h2.objs.size = s.heap.objs.size + 1 := by rw [← hp]; exact Heap.size_push ..
  simp only [List.forIn_cons, List.forIn_nil]
  refine wpAny_bind (wpAny_bind (wpAny_bind (wpAny_isInstance (T := "list") (b := false) hT sub_lst_str ?_)))
  simp only [Bool.false_eq_true, if_false]
  refine wpAny_pure (wpAny_bind (wpAny_bind (wpAny_isInstance (T := "list") (b := false) hT sub_lst_bytes ?_)))
  simp only [Bool.false_eq_true, if_false]
  refine wpAny_pure (wpAny_bind (wpAny_bind (wpAny_isInstance (T := "list") (b := false) hT sub_lst_bytearray ?_)))
  simp only [Bool.false_eq_true, if_false]
  refine wpAny_pure (wpAny_pure ?_)
  refine wpAny_bind (wpAny_newObj_type ?_)
  have lt0 : T0 < s.heap.objs.size := Heap.lt_size h0
  have n1 : s.heap.objs.size < h2.objs.size := by rw [s2]; exact Nat.lt_succ_self _
  have po : ∀ b o, s.heap.get? b = some o → (h2.push { cls := .type "list", dict := none, data := .seq #[.ref T0] 0, slots := #[] }).get? b = some o := fun b o e => Heap.get?_push_of_some _ (hpo b o e)
  refine wpAny_pure ⟨plainId_quiet F.plain_sum_loop _, loop_sumL (xss := xss) hh (Nat.ne_of_lt hlt) hlen hz h2.objs.size T0 s.heap.objs.size (Nat.ne_of_gt n1) (Nat.ne_of_gt (Nat.lt_trans hlt n1)) (Nat.le_of_lt n1) (Nat.le_refl _) its.size 0 _ T0 0 c0 (by omega) (Nat.zero_le _)
    ⟨hIt.at fun o e => Heap.get?_push_of_some _ e, hl.at fun o e => po _ _ e⟩ (Heap.get?_push_size _ rfl) (by simpa using po _ _ h0) (Nat.ne_of_lt (Nat.lt_trans lt0 n1)) (Nat.ne_of_lt lt0) (.inl ⟨rfl, rfl⟩) (fun j v hj => ?_) fun h' tk T' c' hk hb hT' => ?_⟩
  · obtain ⟨a, n, xs, e1, e2, e3⟩ := hi j v hj
    have := Heap.lt_size e3
    exact ⟨a, n, xs, e1, Nat.ne_of_lt (Nat.lt_trans this n1), Nat.ne_of_lt this, e2, po _ _ e3⟩
  · refine h h' tk T' c' (fun b o e => ?_) hb hT'
    have := Heap.lt_size e
    exact hk b o (Nat.ne_of_lt this) (Nat.ne_of_lt (Nat.lt_trans this n1)) (po b o e)
end
end KT

namespace KT
open PySem PySem.Spec PyProof.Rows L2
section
variable {X : Cx}
theorem inner_of {pins : List (Addr × Obj)} {σ : L2.St} {H : Hp} {s : Shared} (I : Inv X pins σ H s) : ∀ {as : List Addr} {yss : List (List V)}, Paired (fun (a : Addr) (ys : List V) => H a = some (.lst ys)) as yss →
    ∃ xss : List (List Value), xss.length = as.length ∧ Vals yss.flatten xss.flatten ∧ ∀ (j : Nat) (a : Addr), as[j]? = some a → ∃ (n : Nat) (xs : List Value), xss[j]? = some xs ∧ IsL s.heap a xs.toArray n
  | [], [], .nil => ⟨[], rfl, .nil, fun j a e => by simp at e⟩
  | a :: as, ys :: yss, .cons h t => by
    obtain ⟨xss, h1, h2, h3⟩ := inner_of I t
    obtain ⟨_, its, n, rv, g⟩ := I.hok a _ h
    refine ⟨its :: xss, by simp [h1], by rw [List.flatten_cons, List.flatten_cons]; exact rv.append h2, fun j b e => ?_⟩
    match j, e with
    | 0, e =>
      obtain rfl := Option.some.inj e
      exact ⟨n, its, rfl, g⟩
    | j + 1, e => exact h3 j b (by simpa using e)
/-- sum(xs, []), xs a list of lists, not empty -/
theorem cr_sumL (hc : X.calm = true) : CallR X (.builtin "sum") (fun vs H Q => ∃ (l e : Addr) (as : List Addr) (yss : List (List V)), vs = [.ref l, .ref e] ∧ H l = some (.lst (as.map V.ref)) ∧ H e = some (.lst []) ∧ as ≠ [] ∧
    Paired (fun (a : Addr) (ys : List V) => H a = some (.lst ys)) as yss ∧ yss.flatten.length ≤ sizeLine ∧ ∀ p, H p = none → Q (.ref p) (upd H p (.lst yss.flatten))) := by
  intro pins s σ H vs us Q I r h
  obtain ⟨l, e, as, yss, rfl, hl, he, hne, hp, hz, q⟩ := h
  obtain ⟨u, v, rfl, ru, rv⟩ := vals2 r
  obtain rfl : u = Value.ref l := ru
  obtain rfl : v = Value.ref e := rv
  obtain ⟨zl, its, n, vl, gl⟩ := I.hok l _ hl
  have ei := refs_at vl
  subst ei
  obtain ⟨_, its0, n0, v0, g0⟩ := I.hok e _ he
  cases v0
  obtain ⟨xss, h1, h2, h3⟩ := inner_of I hp
  have ll : (as.map Value.ref).toArray.size = as.length := by simp
  refine call_sumL (I.ok.hd hc) (xss := xss) (PySem.IsL.isList gl) (fun i v hv => ?_) (by rw [ll, h1]) (by rw [← h2.length]; exact hz) g0 fun h' tk T' c' hk hb hT => ?_
  · rw [List.getElem?_toArray, List.getElem?_map] at hv
    obtain ⟨a, ha, rfl⟩ := Option.map_eq_some_iff.mp hv
    obtain ⟨n', xs, e1, e2⟩ := h3 i a ha
    exact ⟨a, n', xs, rfl, e1, e2⟩
  · have le : s.heap.objs.size ≤ T' := by
      rcases hb with ⟨z, _⟩ | z
      · rw [ll] at z
        exact absurd (List.eq_nil_of_length_eq_zero z) hne
      · exact z
    exact ⟨.ref T', upd H T' (.lst yss.flatten), I.laid (t' := tk) hk le (show ObjOk X.prog X.w _ _ _ (.lst yss.flatten) from ⟨hz, xss.flatten, c', h2, hT⟩), rfl, q T' (I.hok.fresh le)⟩
end
/-! ### calls by keyword alone -/
def tCallK0 (sp : Sp) (gV : List V → List V → List V) (E : XK) (tk : TA) : TE := fun σ H Q => tk σ H fun zs H2 => sp (gV [] zs) H2 Q E
section
variable {X : Cx} {CX : CXT} {k : Nat} {f : Addr} {fd : FuncData} {ps ks : List Str} {sp : Sp} {E : XK} {x : Str} {p pos : Pos} {kws : List Keyword} {tk : TA} {g : List Value → List Value → List Value} {gV : List V → List V → List V}
theorem pe_callK0 (F : FnOk X.prog X.w X.K X.mg X.base CX k f fd ps sp) (hr : Room k X.A) (hg : Gl X x) (hm : X.mg x = some (.ref f)) (hk : PySem.W.keepIn X.K (.ref f) = true) (hb : KBinds X.K fd ps ks g gV) (hx : Passes CX X E)
    (hkw : PK X kws tk) (hall : (backToKw pos (keywordEach kws X.env)).all (·.1.isSome) = true := by rfl) (hks : (backToKw pos (keywordEach kws X.env)).filterMap (·.1) = ks := by rfl)
    (hdb : (x == ("__debug__" : Str)) = false := by decide) (hpl : ((backTo pos (starEach [] X.env)).any (·.1) || (backToKw pos (keywordEach kws X.env)).any (·.1.isNone)) = false := by rfl) :
    PE X (.Call (.Name x p) [] kws pos) (tCallK0 sp gV E tk) := by
  refine ⟨fun pins s σ H Q I h => ?_⟩
  refine wpAny_Call_Name_kw (ld_glob I hg hm ?_ hdb)
  refine PySem.W.callWith_KW0 (h₀ := X.base) I.ok.mod.kin hk hall (thn (hkw.run pos pins s σ H _ I h) fun ws s2 ⟨zs, H2, I2, rz, q2⟩ => ⟨I2.kIn, ?_⟩) hpl
  rw [hks]
  exact run_fnk (us := []) F hr hb hx I2 .nil rz q2
/-- nothing by place, the keywords' values in the order of the parameters by f -/
def gK {α : Type} (f : List α → List α) (us ws : List α) : List α := match us with
  | [] => f ws
  | _ => []
theorem kbinds_mk {K : PySem.W.Frag} {q : Str} {st : Stmt} (F : Fun K x q st f fd) (h1 : ps ≠ []) (fo : ∀ {α : Type}, List α → List α)
    (h : ∀ (kV doc pm : Value) (an : Option Addr) (cdv ct : Value) (ws : List Value), (fo ws).length = ps.length → bindArgs (PySem.W.fnOf x q (defArgs st) (defBody st) (defScope st) .none kV doc pm an cdv ct) ⟨[], ks.zip ws⟩ = pure (ps.zip (fo ws)))
    (hr : ∀ {zs : List V} {ws : List Value}, Vals zs ws → Vals (fo zs) (fo ws)) : KBinds K fd ps ks (gK fo) (gK fo) := by
  obtain ⟨oc, od, kV, doc, pm, an, cdv, ct, osl, rfl, lk, hcd⟩ := F.ex
  refine ⟨fun s us ws _ hl => ?_, fun {vs us zs ws} r rz => ?_⟩
  · cases us with
    | nil => exact .of_eq (h kV doc pm an cdv ct ws hl)
    | cons u us =>
      exact absurd (List.eq_nil_of_length_eq_zero (by rw [← hl]; rfl)) h1
  · cases r with
    | nil => exact hr rz
    | cons _ _ => exact .nil
end
end KT

namespace KT
open PySem PySem.Spec PyProof.Rows L2
section
variable {X : Cx}
/-- x in a tuple, data at any depth -/
def rInDT (K : PySem.W.Frag) (neg : Bool) : R2 := fun x y H Q => ∃ d ds, Dp K H x d ∧ Dp K H y (.tuple ds) ∧ SeqAt.shaped d = true ∧ SeqAt.shaped (.tuple ds) = true ∧ Q (.bl (if neg = true then !ds.any fun z => PyData.eqv z d else ds.any fun z => PyData.eqv z d)) H
theorem op_inDT (hu : X.A.units + 65 < cLine) : OpR X (compareOp .In) (rInDT X.K false) := by
  intro pins s σ H x y v u Q I rx ry h
  obtain ⟨d, ds, hd, he, sd, se, q⟩ := h
  obtain ⟨as, r1⟩ := Dp.reads I d x v hd rx
  obtain ⟨bs, r2⟩ := Dp.reads I (.tuple ds) y u he ry
  exact SeqAt.in_tuple_reads r2 r1 (SeqAt.canLay_of_shaped se) (SeqAt.canLay_of_shaped sd) (room_in_shaped sd hu) ⟨.bl _, H, I, rfl, q⟩
end
end KT

namespace V1
open PySem PySem.Spec PyProof.Rows L2 KT
open PySem.W (Frag)
def D.cls : D → String
  | .s _ => "str"
  | .i _ => "int"
  | .o => "NoneType"
  | .t _ => "tuple"
def D.isStr : D → Bool
  | .s _ => true
  | _ => false
def D.isTup : D → Bool
  | .t _ => true
  | _ => false
def D.isInt : D → Bool
  | .i _ => true
  | _ => false
section
variable {K : Frag} {H : Hp} {v : V} {d : D}
theorem DAt.tyx (h : DAt H v d) : TyX K H v (.type d.cls) := by
  cases h with
  | s h => exact .base (.str _)
  | i n => exact .base (.int n)
  | o => exact .base .non
  | t e _ => exact .base (.tup e)
theorem D.kstr (d : D) : PySem.W.kitOne K (.type d.cls) (.type "str") = some d.isStr := by cases d <;> exact kit_ty (by dsimp only [D.cls, D.isStr]; decide +kernel)
theorem D.ktup (d : D) : PySem.W.kitOne K (.type d.cls) (.type "tuple") = some d.isTup := by cases d <;> exact kit_ty (by dsimp only [D.cls, D.isTup]; decide +kernel)
theorem D.kint (d : D) : PySem.W.kitOne K (.type d.cls) (.type "int") = some d.isInt := by cases d <;> exact kit_ty (by dsimp only [D.cls, D.isInt]; decide +kernel)
theorem D.kbool (d : D) : PySem.W.kitOne K (.type d.cls) (.type "bool") = some false := by cases d <;> exact kit_ty (by dsimp only [D.cls]; decide +kernel)
end
section
variable {P : Program} {w : World} {K : Frag} {mg : Str → Option Value} {base : Heap}
def D.isWord : D → Bool
  | .s z => isWB z
  | _ => false
def spIsWordD : Sp := fun vs H Q _ => ∃ v d, vs = [v] ∧ DAt H v d ∧ ∀ H', Same H H' → Q (.bl d.isWord) H'
theorem abc_iff (c : Nat) : decide (c ∈ abc.cps.toList) = (decide (97 ≤ c) && decide (c ≤ 122)) := by
  rw [Bool.eq_iff_iff, decide_eq_true_eq, Bool.and_eq_true, decide_eq_true_eq, decide_eq_true_eq]
  constructor
  · intro h
    have q : ∀ d ∈ abc.cps.toList, 97 ≤ d ∧ d ≤ 122 := by decide +kernel
    exact q c h
  · intro h
    exact abc_mem h.1 h.2
theorem ok_isWordD {f : Addr} {fd : FuncData} (T : Top K mg "is_word" sIsWord pIsWord f fd) (B : Blt mg) (G : Gbl K mg) : FnOk P w K mg base CX0 1 f fd pIsWord spIsWordD := by
  obtain ⟨tl, gl⟩ := G.letters
  refine T.F.ok scIsWord (fun vs H Q E h => ?_) (fun cdv A outer s H vs Q E hr h => ?_)
  · obtain ⟨_, _, rfl, _⟩ := h
    rfl
  · obtain ⟨v, d, rfl, hd, k⟩ := h
    refine ⟨_, (pss_cons (ps_if (PW.pt (pw_or (pt_not (pt_val (pe_callB call_isi (by rfl) B.isi (by decide +kernel) (pa_cons (pv 0) (pa_cons (pe_bltn (v := .ty "str") (by rfl) B.str_ (by decide +kernel) rfl) pa_nil))))) (pw_or1 (pt_not (pt_chain op_le op_le pe_int (pe_callB call_len_str (by rfl) B.len PySem.boot_len (pa_cons (pv 0) pa_nil)) pe_int))))) (pss_one (ps_ret pe_bl)) pss_nil)
      (pss_one (ps_ret (pe_callB (cr_all rfl) (by rfl) B.all (by decide +kernel) (pa_cons (pe_lc (own := [("letter", 1)]) (g := gName 1) (tt := tYes) rfl scIsWord.nd (pi_str (pv 0)) (blkOk_by (N := nIsWord) (sc := defScope sIsWord) (by decide +kernel)) (fun _ _ _ _ _ => pg_name (i := 1) scIsWord.nd rfl (Or.inl rfl)) (fun _ _ _ _ _ => pts_nil) (fun _ _ _ _ _ => (pe_cmpR op_in_sign (pv 1) (pe_glob (v := .str abc) rfl gl ⟨tl, rfl⟩) (by rfl)))) pa_nil))))), ?_⟩
    refine ⟨_, rfl, _, _, _, _, d.isStr, rfl, .ty "str", hd.tyx, d.kstr, _, rfl, ?_⟩
    cases hd with
    | i n => exact iteT (k _ (Same.refl _))
    | o => exact iteT (k _ (Same.refl _))
    | t e h => exact iteT (k _ (Same.refl _))
    | @s z h =>
      have hl := h.2
      refine iteF ⟨_, rfl, _, rfl, by rw [sizeLine_eq]; omega, _, _, rfl, rfl, _, rfl, ?_⟩
      have e0 : (D.s z).isWord = (decide (1 ≤ z.length) && decide (z.length ≤ 8) && z.cps.toList.all fun c => decide (97 ≤ c) && decide (c ≤ 122)) := rfl
      rw [e0] at k
      by_cases c1 : 1 ≤ z.length
      · rw [decide_eq_true (show (1 : Int) ≤ (z.length : Int) by omega)]
        refine iteT ⟨_, _, rfl, rfl, _, rfl, ?_⟩
        by_cases c2 : z.length ≤ 8
        · rw [decide_eq_true (show (z.length : Int) ≤ 8 by omega)]
          refine iteF ⟨_, rfl, _, rfl, fun D hD => ?_⟩
          rw [decide_eq_true c1, decide_eq_true c2, Bool.true_and, Bool.true_and] at k
          refine lc_it walk_str (fun i H' => H' = upd H D (.lst ((z.cps.toList.take i).map fun c => V.bl (decide (c ∈ abc.cps.toList))))) (by rw [List.take_zero]; rfl) (fun _ _ _ _ => trivial) ?_ ?_
          · rintro i x H' H2 hi rfl ⟨rfl, c, hc, rfl⟩
            have hc' : z.cps.toList[i]? = some c := by rw [Array.getElem?_toList]; exact hc
            refine ⟨rfl, _, rfl, c, abc, rfl, rfl, _, upd_same, ?_, ?_⟩
            · rw [List.length_map, List.length_take, sizeLine_eq]
              have : z.cps.size ≤ 1000000 := hl
              omega
            · rw [upd_upd, List.take_add_one, hc', List.map_append]
              rfl
          · rintro H' rfl
            have lz : z.cps.size = z.cps.toList.length := by simp
            refine ⟨_, z.cps.toList.map fun c => decide (c ∈ abc.cps.toList), rfl, SqL.of (by rw [upd_same, lz, List.take_length, List.map_map]; rfl), ?_⟩
            have e : (z.cps.toList.map fun c => decide (c ∈ abc.cps.toList)).all id = z.cps.toList.all fun c => decide (97 ≤ c) && decide (c ≤ 122) := by
              rw [List.all_map]
              congr 1
              funext c
              exact abc_iff c
            rw [e]
            exact k _ (same_upd hD)
        · rw [decide_eq_false (show ¬ (z.length : Int) ≤ 8 by omega)]
          rw [decide_eq_false c2, Bool.and_false, Bool.false_and] at k
          exact iteT (k _ (Same.refl _))
      · rw [decide_eq_false (show ¬ (1 : Int) ≤ (z.length : Int) by omega)]
        rw [decide_eq_false c1, Bool.false_and, Bool.false_and] at k
        exact iteF ⟨_, rfl, iteT (k _ (Same.refl _))⟩
end
end V1

namespace V1
open PySem PySem.Spec PyProof.Rows L2 KT
open PySem.W (Frag)
theorem hu65 {A : Around} {k : Nat} (hr : Room k A) : A.units + 65 < cLine := by have := hr.un; omega
def D.isSig : D → Bool
  | .t [.s g, _, _] => (sgOf g).isSome
  | _ => false
def D.isKd (d : D) : Bool := d.ty.isSome
theorem signs_any (g : Str) : ([PyData.str "over", .str "then", .str "under"].any fun z => PyData.eqv z (.str g)) = (sgOf g).isSome := by
  have e : ∀ a : Str, PyData.eqv (.str a) (.str g) = decide (g = a) := fun a => by
    simp only [PyData.eqv]
    rw [Bool.eq_iff_iff, beq_iff_eq, decide_eq_true_eq]
    exact eq_comm
  simp only [List.any_cons, List.any_nil, Bool.or_false, e]
  unfold sgOf
  by_cases h1 : g = "over"
  · rw [if_pos h1, decide_eq_true h1]; rfl
  · rw [if_neg h1, decide_eq_false h1]
    by_cases h2 : g = "then"
    · rw [if_pos h2, decide_eq_true h2]; rfl
    · rw [if_neg h2, decide_eq_false h2]
      by_cases h3 : g = "under"
      · rw [if_pos h3, decide_eq_true h3]; rfl
      · rw [if_neg h3, decide_eq_false h3]; rfl
theorem signs_any0 (d : D) (h : d.isStr = false) : ([PyData.str "over", .str "then", .str "under"].any fun z => PyData.eqv z d.py) = false := by
  cases d with
  | s z => cases h
  | i n => simp [D.py, PyData.eqv]
  | o => simp [D.py, PyData.eqv]
  | t l => simp [D.py, PyData.eqv]
theorem isSig_ty {d : D} (h : d.isSig = true) : ∃ g a b, d = .t [.s g, a, b] ∧ d.isKd = (a.isKd && b.isKd) := by
  unfold D.isSig at h
  split at h
  · rename_i g a b
    refine ⟨g, a, b, rfl, ?_⟩
    obtain ⟨g', hg⟩ := Option.isSome_iff_exists.mp h
    simp only [D.isKd, D.ty, tyAll, mkTy]
    cases a.ty <;> cases b.ty <;> simp [hg]
  · cases h
theorem nsig_ty {d : D} (h : d.isSig = false) : d.isKd = d.isWord := by
  cases d with
  | s z =>
    simp only [D.isKd, D.ty, D.isWord]
    cases e : isWB z <;> simp
  | i n => simp [D.isKd, D.ty, D.isWord]
  | o => simp [D.isKd, D.ty, D.isWord]
  | t l =>
    simp only [D.isKd, D.ty, D.isWord]
    cases e : mkTy l (tyAll l) with
    | none => rfl
    | some t =>
      obtain ⟨g, x, y, a, b, rfl, _, _⟩ := mkTy_inv e
      simp [D.isSig, sgOf_str] at h
theorem dep_head {a : D} {r : List D} {n : Nat} (h : (D.t (a :: r)).dep ≤ n + 1) : a.dep ≤ n ∧ depAll r ≤ n := by
  simp only [D.dep, depAll] at h
  omega
section
variable {P : Program} {w : World} {K : Frag} {mg : Str → Option Value} {base : Heap}
def spIsSignedD : Sp := fun vs H Q _ => ∃ v d, vs = [v] ∧ DAt H v d ∧ d.dep ≤ 60 ∧ Q (.bl d.isSig) H
theorem ok_isSignedD {f : Addr} {fd : FuncData} (T : Top K mg "_is_signed" sIsSigned pIsSigned f fd) (B : Blt mg) (G : Gbl K mg) : FnOk P w K mg base CX0 1 f fd pIsSigned spIsSignedD := by
  obtain ⟨sa, gs, hs⟩ := G.signs
  refine T.F.ok scIsSigned (fun vs H Q E h => ?_) (fun cdv A outer s H vs Q E hr h => ?_)
  · obtain ⟨_, _, rfl, _⟩ := h
    rfl
  · obtain ⟨v, d, rfl, hd, hdep, k⟩ := h
    refine ⟨_, pss_one (ps_ret (pe_and (pe_callB call_isi (by rfl) B.isi (by decide +kernel) (pa_cons (pv 0) (pa_cons (pe_bltn (v := .ty "tuple") (by rfl) B.tuple (by decide +kernel) rfl) pa_nil))) (pe_and (pe_cmpR op_eq (pe_callB call_len_seq (by rfl) B.len PySem.boot_len (pa_cons (pv 0) pa_nil)) pe_int (nomark _)) (pe_one (pe_cmpR (KT.op_inDT (hu65 hr)) (pe_ix ix_tup (pv 0) pe_int (fun _ _ => rfl)) (pe_glob (v := .ref sa) rfl gs rfl) (by rfl)))))), ?_⟩
    refine ⟨_, rfl, _, _, _, _, d.isTup, rfl, .ty "tuple", hd.tyx, d.ktup, _, rfl, ?_⟩
    cases hd with
    | s h => exact k
    | i n => exact k
    | o => exact k
    | @t p xs ds e h =>
      have hl := h.length
      refine ⟨_, rfl, p, xs, rfl, .inr (SqT.of e), rfl, _, rfl, ?_⟩
      by_cases c : xs.length = 3
      · rw [decide_eq_true (show (V.int (xs.length : Int)) = V.int 3 by rw [c]; rfl)]
        cases h with
        | nil => simp at c
        | @cons x xs d0 ds h0 h =>
          cases h with
          | nil => simp at c
          | @cons x1 xs d1 ds h1 h =>
            cases h with
            | nil => simp at c
            | @cons x2 xs d2 ds h2 h =>
              cases h with
              | cons _ _ => simp at c
              | nil =>
                have dd := (dep_head (n := 59) hdep).1
                have hp := (DAt.py (K := K) h0).1
                refine ⟨_, rfl, p, _, _, _, rfl, rfl, SqT.of e, atI_nat (j := 0) rfl, d0.py, _, hp, .tup (sqT_any hs) (.cons (.str _) (.cons (.str _) (.cons (.str _) .nil))), DAt.shaped (K := K) h0 (by omega), by decide +kernel, ?_⟩
                rw [if_neg (by decide)]
                cases h0 with
                | s h => rw [show (D.s _).py = PyData.str _ from rfl, signs_any]; exact k
                | i n => rw [signs_any0 _ rfl]; exact k
                | o => rw [signs_any0 _ rfl]; exact k
                | t e h => rw [signs_any0 _ rfl]; exact k
      · rw [decide_eq_false (show ¬ (V.int (xs.length : Int)) = V.int 3 from fun z => c (by injection z with z; omega))]
        have e0 : (D.t ds).isSig = false := by
          unfold D.isSig
          split
          · rename_i g a b heq
            injection heq with heq
            rw [heq] at hl
            exact absurd hl c
          · rfl
        rw [e0] at k
        exact k
def spIsKindD : Sp := fun vs H Q _ => ∃ v d, vs = [v] ∧ DAt H v d ∧ d.dep ≤ 60 ∧ d.size ≤ 1000000 ∧ ∀ H', Same H H' → Q (.bl d.isKd) H'
theorem ok_isKindD {f fs fw : Addr} {fd fds fdw : FuncData} (T : Top K mg "is_kind" sIsKind pIsKind f fd) (TS : Top K mg "_is_signed" sIsSigned pIsSigned fs fds) (TW : Top K mg "is_word" sIsWord pIsWord fw fdw) (B : Blt mg) (G : Gbl K mg) :
    FnOk P w K mg base CX0 2 f fd pIsKind spIsKindD := by
  have GS : FnOk P w K mg base CX0 1 fs fds pIsSigned spIsSignedD := ok_isSignedD TS B G
  have GW : FnOk P w K mg base CX0 1 fw fdw pIsWord spIsWordD := ok_isWordD TW B G
  refine T.F.ok scIsKind (fun vs H Q E h => ?_) (fun cdv A outer s H vs Q E hr h => ?_)
  · obtain ⟨_, _, rfl, _⟩ := h
    rfl
  · obtain ⟨v, d, rfl, hd, hdep, hz, k⟩ := h
    refine ⟨_, (pss_cons (ps_set (i := 1) scIsKind.nd rfl (Or.inl rfl) (pe_lst (pa_cons (pv 0) pa_nil)))
      (pss_cons (ps_while PassesOwn.never (pt_truth (pv 1) (by intro _; rfl))
        (pss_cons (ps_set (i := 2) scIsKind.nd rfl (Or.inl rfl) (pe_bm0 PySem.F.plainAttrs_list PySem.F.slot_list_pop PySem.F.type_list_pop mt_pop (pv 1)))
      (pss_one (ps_if (pt_val (pe_call GS hr rfl TS.g TS.F.kp TS.b .nil pass0 (pa_cons (pv 2) pa_nil))) (pss_one (ps_expr (pe_bm PySem.F.plainAttrs_list PySem.F.slot_list_extend PySem.F.type_list_extend KT.mt_extT (pv 1) (pa_cons (pe_slice sl_tup (pv 2) (po_some pe_int) po_none) pa_nil))))
            (pss_one (ps_if (pt_not (pt_val (pe_call GW hr rfl TW.g TW.F.kp TW.b .nil pass0 (pa_cons (pv 2) pa_nil)))) (pss_one (ps_ret pe_bl)) pss_nil))))))
      (pss_one (ps_ret pe_bl)))), ?_⟩
    refine ⟨v, rfl, by show 1 ≤ sizeLine; rw [sizeLine_eq]; omega, fun W hW => ?_⟩
    refine ⟨fun m σ H' => ∃ (vs : List V) (ds : List D) (v2 : Option V), σ = [some v, some (.ref W), v2] ∧ H' W = some (.lst vs.reverse) ∧ DsAt H' vs ds ∧ sizeAll ds = m ∧ m ≤ 1000000 ∧ (∀ u ∈ ds, u.dep ≤ 60) ∧ d.isKd = ds.all D.isKd ∧ Same H H',
      ⟨d.size, [v], [d], none, rfl, upd_same, .cons (hd.mono (TK.upd_new hW)) .nil, by simp [sizeAll], hz, fun u hu => by rw [List.mem_singleton.mp hu]; exact hdep, by simp, same_upd hW⟩, ?_⟩
    rintro m σ H1 ⟨vs, ds, v2, rfl, hL, hT, rfl, hm, hdp, hall, hs⟩
    refine ⟨_, rfl, _, .inl ⟨_, SqL.of hL, rfl⟩, ?_⟩
    cases hT with
    | nil =>
      have q := k H1 hs
      rw [hall] at q
      exact iteF q
    | @cons y vs u ds h1 h2 =>
      have el : (y :: vs).reverse = vs.reverse ++ [y] := List.reverse_cons
      have c : (!(y :: vs).reverse.isEmpty) = true := by rw [el]; simp
      rw [c]
      have hm' : u.size + sizeAll ds ≤ 1000000 := hm
      have up := u.size_pos
      refine iteT ⟨fun σ' H' => ∃ m' < sizeAll (u :: ds), ∃ (vs : List V) (ds : List D) (v2 : Option V), σ' = [some v, some (.ref W), v2] ∧ H' W = some (.lst vs.reverse) ∧ DsAt H' vs ds ∧ sizeAll ds = m' ∧ m' ≤ 1000000 ∧ (∀ u ∈ ds, u.dep ≤ 60) ∧ d.isKd = ds.all D.isKd ∧ Same H H', fun σ' H' q => q, ?_⟩
      refine ⟨_, rfl, .inl ⟨rfl, _, SqL.of hL⟩, W, _, y, rfl, rfl, hL, by rw [el]; simp, ?_⟩
      have ed : (y :: vs).reverse.dropLast = vs.reverse := by rw [el]; simp
      rw [ed]
      have tk : TK H1 (upd H1 W (.lst vs.reverse)) := TK.upd_lst hL
      have hs' : Same H (upd H1 W (.lst vs.reverse)) := same_over hs hW
      have h1' := h1.mono tk
      rw [List.all_cons] at hall
      refine ⟨y, rfl, y, u, rfl, h1', hdp u List.mem_cons_self, _, rfl, ?_⟩
      cases sg : u.isSig with
      | false =>
        refine iteF ⟨_, rfl, y, u, rfl, h1', fun H2 s2 => ⟨_, rfl, ?_⟩⟩
        rw [nsig_ty sg] at hall
        cases ww : u.isWord with
        | false =>
          rw [ww, Bool.false_and] at hall
          have q := k H2 (hs'.trans s2)
          rw [hall] at q
          exact iteT q
        | true =>
          rw [ww, Bool.true_and] at hall
          exact iteF ⟨sizeAll ds, by show _ < u.size + sizeAll ds; omega, vs, ds, _, rfl, s2 _ _ upd_same, h2.mono (tk.trans (TK.of_same s2)), rfl, by omega, fun z hz => hdp z (List.mem_cons_of_mem _ hz), hall, hs'.trans s2⟩
      | true =>
        obtain ⟨g, a, b, rfl, ek⟩ := isSig_ty sg
        rw [ek] at hall
        have dd := hdp _ List.mem_cons_self
        have da : a.dep ≤ 60 ∧ b.dep ≤ 60 := by
          simp only [D.dep, depAll] at dd
          omega
        have sz : (D.t [.s g, a, b]).size = a.size + b.size + 2 := by simp only [D.size, sizeAll]; omega
        cases h1 with
        | @t p xs _ e h =>
          cases h with
          | @cons x0 xs _ _ k0 h => cases h with
            | @cons x1 xs _ _ k1 h => cases h with
              | @cons x2 xs _ _ k2 h => cases h with
                | nil =>
                  refine iteT ⟨_, rfl, .inl ⟨rfl, _, SqL.of upd_same⟩, _, rfl, _, rfl, p, _, rfl, SqT.of (tk _ _ e), cut_not, fun p' hp => ?_⟩
                  have np : W ≠ p' := ne_of_none upd_same hp
                  have l1 := h2.length
                  have l2 : ds.length ≤ sizeAll ds := by
                    clear hm hm' hall hdp h2 sz k hs l1
                    induction ds with
                    | nil => exact Nat.zero_le _
                    | cons z r ih =>
                      have := z.size_pos
                      simp only [List.length_cons, sizeAll]
                      omega
                  refine ⟨W, p', _, _, rfl, rfl, by rw [upd_ne np, upd_same], SqT.of upd_same, ?_, ?_⟩
                  · show vs.reverse.length + 2 ≤ sizeLine
                    rw [List.length_reverse, sizeLine_eq]
                    omega
                  · have tk2 : TK H1 (upd (upd (upd H1 W (.lst vs.reverse)) p' (.tup [x1, x2])) W (.lst (vs.reverse ++ [x1, x2]))) := (tk.trans (TK.upd_new hp)).trans (TK.upd_lst (by rw [upd_ne np, upd_same]))
                    refine ⟨b.size + (a.size + sizeAll ds), ?_, x2 :: x1 :: vs, b :: a :: ds, _, rfl, ?_, .cons (k2.mono tk2) (.cons (k1.mono tk2) (h2.mono tk2)), rfl, ?_, ?_, ?_, ?_⟩
                    · show _ < (D.t [.s g, a, b]).size + sizeAll ds
                      omega
                    · rw [upd_same]
                      simp
                      rfl
                    · omega
                    · intro z hz
                      rcases List.mem_cons.mp hz with rfl | hz
                      · exact da.2
                      · rcases List.mem_cons.mp hz with rfl | hz
                        · exact da.1
                        · exact hdp z (List.mem_cons_of_mem _ hz)
                    · rw [hall, List.all_cons, List.all_cons, ← Bool.and_assoc, Bool.and_comm b.isKd]
                    · exact same_over (hs'.trans (same_upd hp)) hW
end
end V1

namespace V1
open PySem PySem.Spec PyProof.Rows L2 NdefX LamX KT
open PySem.W (Frag)
theorem DsAt.rev {H : Hp} {vs : List V} {ds : List D} (h : DsAt H vs ds) : DsAt H vs.reverse ds.reverse := by
  induction ds generalizing vs with
  | nil => cases h; exact .nil
  | cons d r ih =>
    cases h with
    | cons a s => rw [List.reverse_cons, List.reverse_cons]; exact (ih s).append (.cons a .nil)
theorem sizeAll_app : ∀ l r : List D, sizeAll (l ++ r) = sizeAll l + sizeAll r
  | [], r => by simp [sizeAll]
  | d :: l, r => by simp only [List.cons_append, sizeAll, sizeAll_app l r]; omega
theorem sizeAll_rev (l : List D) : sizeAll l.reverse = sizeAll l := by
  induction l with
  | nil => rfl
  | cons d r ih => rw [List.reverse_cons, sizeAll_app, ih]; simp only [sizeAll]; omega
theorem len_size : ∀ l : List D, l.length ≤ sizeAll l
  | [] => Nat.zero_le _
  | d :: r => by
    have := d.size_pos
    have := len_size r
    simp only [List.length_cons, sizeAll]
    omega
/-! ### walks from inside, of any trees of data, by any callee -/
def ndAll (nd : D → List D) : List D → List D
  | [] => []
  | d :: r => nd d ++ ndAll nd r
theorem ndAll_app (nd : D → List D) (l r : List D) : ndAll nd (l ++ r) = ndAll nd l ++ ndAll nd r := by
  induction l with
  | nil => rfl
  | cons d l ih => simp only [List.cons_append, ndAll, ih, List.append_assoc]
/-- trees: parts, nodes, which data are such -/
structure Tree (pt nd : D → List D) (Dm : D → Prop) : Prop where
  nd : ∀ u, Dm u → nd u = u :: ndAll nd (pt u).reverse
  sz : ∀ u, Dm u → sizeAll (pt u) < u.size ∧ (pt u).length ≤ 2
  dm : ∀ u, Dm u → ∀ p ∈ pt u, Dm p
inductive RunG (pt : D → List D) : List D → List D → List D → Prop
  | nil {S : List D} : RunG pt S [] S
  | cons {S R S' : List D} {u : D} : RunG pt (S ++ [u]) R S' → RunG pt (S ++ pt u) (u :: R) S'
theorem RunG.inv {pt : D → List D} {S R S' : List D} {u : D} (h : RunG pt S (u :: R) S') : ∃ S0, S = S0 ++ pt u ∧ RunG pt (S0 ++ [u]) R S' := by
  cases h with
  | cons h => exact ⟨_, rfl, h⟩
theorem RunG.end_ {pt : D → List D} {S S' : List D} (h : RunG pt S [] S') : S = S' := by
  cases h
  rfl
theorem Tree.len {pt nd : D → List D} {Dm : D → Prop} (T : Tree pt nd Dm) : ∀ (n : Nat) (u : D), u.size ≤ n → Dm u → (nd u).length ≤ u.size ∧ ∀ x ∈ nd u, Dm x := by
  intro n
  induction n with
  | zero => intro u h; have := u.size_pos; omega
  | succ n ih =>
    intro u h ha
    obtain ⟨ps, _⟩ := T.sz u ha
    have hp := T.dm u ha
    rw [T.nd u ha]
    have key : ∀ l : List D, sizeAll l ≤ n → (∀ p ∈ l, Dm p) → (ndAll nd l).length ≤ sizeAll l ∧ ∀ x ∈ ndAll nd l, Dm x := by
      intro l
      induction l with
      | nil => intro _ _; exact ⟨Nat.le_refl _, fun x hx => by cases hx⟩
      | cons d r ihr =>
        intro hl hk
        simp only [sizeAll] at hl
        obtain ⟨a1, a2⟩ := ih d (by omega) (hk d List.mem_cons_self)
        obtain ⟨b1, b2⟩ := ihr (by omega) fun p hp => hk p (List.mem_cons_of_mem _ hp)
        refine ⟨by simp only [ndAll, List.length_append, sizeAll]; omega, fun x hx => ?_⟩
        rcases List.mem_append.mp hx with hx | hx
        · exact a2 x hx
        · exact b2 x hx
    obtain ⟨a1, a2⟩ := key (pt u).reverse (by rw [sizeAll_rev]; omega) fun p hp' => hp p (List.mem_reverse.mp hp')
    rw [sizeAll_rev] at a1
    refine ⟨by rw [List.length_cons]; omega, fun x hx => ?_⟩
    rcases List.mem_cons.mp hx with e | hx
    · rw [e]; exact ha
    · exact a2 x hx
theorem Tree.run {pt nd : D → List D} {Dm : D → Prop} (T : Tree pt nd Dm) : ∀ (n : Nat) (u : D), u.size ≤ n → Dm u → ∀ (S R S' : List D), RunG pt (S ++ [u]) R S' → RunG pt S ((nd u).reverse ++ R) S' := by
  intro n
  induction n with
  | zero => intro u h; have := u.size_pos; omega
  | succ n ih =>
    intro u h ha S R S' hr
    obtain ⟨ps, _⟩ := T.sz u ha
    have hp := T.dm u ha
    have key : ∀ (l : List D), sizeAll l ≤ n → (∀ p ∈ l, Dm p) → ∀ (S R S' : List D), RunG pt (S ++ l) R S' → RunG pt S ((ndAll nd l.reverse).reverse ++ R) S' := by
      intro l
      induction l with
      | nil => intro _ _ S R S' q; simpa [ndAll] using q
      | cons d r ihr =>
        intro hl hk S R S' q
        simp only [sizeAll] at hl
        have e : (ndAll nd (d :: r).reverse).reverse ++ R = (nd d).reverse ++ ((ndAll nd r.reverse).reverse ++ R) := by
          rw [List.reverse_cons, ndAll_app]
          simp [ndAll]
        rw [e]
        refine ih d (by omega) (hk d List.mem_cons_self) _ _ _ (ihr (by omega) (fun p hp => hk p (List.mem_cons_of_mem _ hp)) _ _ _ ?_)
        rw [List.append_assoc]
        exact q
    have e : (nd u).reverse ++ R = (ndAll nd (pt u).reverse).reverse ++ (u :: R) := by rw [T.nd u ha]; simp
    rw [e]
    exact key (pt u) (by omega) hp _ _ _ (.cons hr)
/-- all but tables stays, nothing goes -/
def ExtS (H H' : Hp) : Prop := ExtN H H' ∧ ∀ b, H' b = none → H b = none
theorem ExtS.refl (H : Hp) : ExtS H H := ⟨ExtN.refl H, fun _ h => h⟩
theorem ExtS.trans {H H1 H2 : Hp} (h : ExtS H H1) (h' : ExtS H1 H2) : ExtS H H2 := ⟨h.1.trans h'.1, fun b e => h.2 b (h'.2 b e)⟩
theorem ExtS.of_same {H H' : Hp} (s : Same H H') : ExtS H H' := ⟨fun b o e _ => s b o e, fun b e => s.free e⟩
theorem ExtS.lst {H H' : Hp} (h : ExtS H H') {b : Addr} {xs : List V} (e : H b = some (.lst xs)) : H' b = some (.lst xs) := h.1 b _ e fun ps z => by cases z
theorem ExtS.tk {H H' : Hp} (h : ExtS H H') : TK H H' := fun p xs e => h.1 p _ e fun ps z => by cases z
theorem ExtS.over {H H' : Hp} {W : Addr} {o : HO} (h : ExtS H H') (n : H W = none) : ExtS H (upd H' W o) := by
  refine ⟨fun b u e m => ?_, fun b e => ?_⟩
  · rw [upd_ne fun z => by rw [z, n] at e; cases e]
    exact h.1 b u e m
  · by_cases z : b = W
    · rw [z]; exact n
    · rw [upd_ne z] at e
      exact h.2 b e
/-- what comes of a node: a relation that bears growth -/
structure Rel (ρ : Type) where
  R : (Addr → Prop) → Hp → V → ρ → Prop
  mono : ∀ {ok ok' : Addr → Prop} {H H' : Hp} {v : V} {r : ρ}, R ok H v r → (∀ a, ok a → ok' a) → (∀ a xs, ok a → H a = some (.lst xs) → H' a = some (.lst xs)) → TK H H' → R ok' H' v r
/-- data, as a relation -/
def relD : Rel D := ⟨fun _ H v d => DAt H v d, fun h _ _ t => h.mono t⟩
section
variable {P : Program} {w : World} {K : Frag} {mg : Str → Option Value} {base : Heap}
def spPartsG (pt : D → List D) (Dm : D → Prop) : Sp := fun vs H Q _ => ∃ v u, vs = [v] ∧ DAt H v u ∧ Dm u ∧ ∀ p us, H p = none → DsAt H us (pt u) → Q (.ref p) (upd H p (.tup us))
def spNodesG (nd : D → List D) (Dm : D → Prop) (fp : Addr) : Sp := fun vs H Q _ => ∃ v d, vs = [v, .ref fp] ∧ DAt H v d ∧ Dm d ∧ d.size ≤ 1000000 ∧
  ∀ (L : Addr) (us : List V) (H' : Hp), Same H H' → H L = none → H' L = some (.lst us) → DsAt H' us (nd d) → Q (.ref L) H'
theorem ok_nodesG {pt nd : D → List D} {Dm : D → Prop} (Tr : Tree pt nd Dm) {f fp : Addr} {fd fdp : FuncData} {xp : Str} {sp_ : Stmt} {pp : List Str} (T : Top K mg "nodes_in" sNodesIn pNodesIn f fd) (TP : Top K mg xp sp_ pp fp fdp) (GP : FnOk P w K mg base CX0 2 fp fdp pp (spPartsG pt Dm)) : FnOk P w K mg base CX0 3 f fd pNodesIn (spNodesG nd Dm fp) := by
  refine T.F.ok scNodesIn (fun vs H Q E h => ?_) (fun cdv A outer s H vs Q E hr h => ?_)
  · obtain ⟨_, _, rfl, _⟩ := h
    rfl
  · obtain ⟨v, t, rfl, ht, hk, hz, k⟩ := h
    refine ⟨_, (pss_cons (ps_set (i := 2) scNodesIn.nd rfl (Or.inl rfl) (pe_lst (pa_cons (pv 0) pa_nil)))
      (pss_cons (ps_set (i := 3) scNodesIn.nd rfl (Or.inl rfl) (pe_lst pa_nil))
      (pss_cons (ps_while PassesOwn.never (pt_truth (pv 2) (by intro _; rfl))
        (pss_cons (ps_set (i := 4) scNodesIn.nd rfl (Or.inl rfl) (pe_bm0 PySem.F.plainAttrs_list PySem.F.slot_list_pop PySem.F.type_list_pop mt_pop (pv 2)))
      (pss_cons (ps_expr (pe_bm PySem.F.plainAttrs_list PySem.F.slot_list_append PySem.F.type_list_append mt_append (pv 3) (pa_cons (pv 4) pa_nil)))
      (pss_one (ps_expr (pe_bm PySem.F.plainAttrs_list PySem.F.slot_list_extend PySem.F.type_list_extend KT.mt_extT (pv 2) (pa_cons (pe_callL (i := 1) (f := fp) GP hr rfl (.inl rfl) TP.F.kp TP.b .nil pass0 (pa_cons (pv 4) pa_nil)) pa_nil)))))))
      (pss_one (ps_ret (pv 3)))))), ?_⟩
    refine ⟨v, rfl, by show 1 ≤ sizeLine; rw [sizeLine_eq]; omega, fun W hW => ⟨by show 0 ≤ sizeLine; exact Nat.zero_le _, fun L hL => ?_⟩⟩
    have nWL : W ≠ L := ne_of_none upd_same hL
    have nL : H L = none := by
      rw [upd_ne nWL.symm] at hL
      exact hL
    have sh : Same H (upd (upd H W (.lst [v])) L (.lst [])) := same_over (same_over (Same.refl H) hW) nL
    obtain ⟨hnl, _⟩ := Tr.len t.size t (Nat.le_refl _) hk
    refine ⟨fun m σ H' => ∃ (vs : List V) (ts : List D) (us : List V) (rs : List D) (v4 : Option V), σ = [some v, some (.ref fp), some (.ref W), some (.ref L), v4] ∧ H' W = some (.lst vs.reverse) ∧ H' L = some (.lst us) ∧ DsAt H' vs ts ∧ DsAt H' us rs ∧ rs ++ ndAll nd ts = nd t ∧ sizeAll ts = m ∧ m ≤ 1000000 ∧ (∀ u ∈ ts, Dm u) ∧ Same H H',
      ⟨t.size, [v], [t], [], [], none, rfl, by rw [upd_ne nWL, upd_same]; rfl, upd_same, .cons (ht.mono (TK.of_same sh)) .nil, .nil, by simp [ndAll], by simp [sizeAll], hz, fun u hu => by rw [List.mem_singleton.mp hu]; exact hk, sh⟩, ?_⟩
    rintro m σ H1 ⟨vs, ts, us, rs, v4, rfl, eW, eL, hT, hR, hn, rfl, hm, hks, hs⟩
    have hlen := congrArg List.length hn
    rw [List.length_append] at hlen
    have lr := hR.length
    refine ⟨_, rfl, _, .inl ⟨_, SqL.of eW, rfl⟩, ?_⟩
    cases hT with
    | nil =>
      refine iteF ⟨_, rfl, k L us H1 hs nL eL ?_⟩
      rw [← hn]
      simpa [ndAll] using hR
    | @cons y vs u ts h1 h2 =>
      have el : (y :: vs).reverse = vs.reverse ++ [y] := List.reverse_cons
      have c : (!(y :: vs).reverse.isEmpty) = true := by rw [el]; simp
      rw [c]
      have hm' : u.size + sizeAll ts ≤ 1000000 := hm
      have fu := hks u List.mem_cons_self
      have hup := Tr.dm u fu
      obtain ⟨ps, pl⟩ := Tr.sz u fu
      refine iteT ⟨fun σ' H' => ∃ m' < sizeAll (u :: ts), ∃ (vs : List V) (ts : List D) (us : List V) (rs : List D) (v4 : Option V), σ' = [some v, some (.ref fp), some (.ref W), some (.ref L), v4] ∧ H' W = some (.lst vs.reverse) ∧ H' L = some (.lst us) ∧ DsAt H' vs ts ∧ DsAt H' us rs ∧ rs ++ ndAll nd ts = nd t ∧ sizeAll ts = m' ∧ m' ≤ 1000000 ∧ (∀ u ∈ ts, Dm u) ∧ Same H H', fun σ' H' q => q, ?_⟩
      refine ⟨_, rfl, .inl ⟨rfl, _, SqL.of eW⟩, W, _, y, rfl, rfl, eW, by rw [el]; simp, ?_⟩
      have ed : (y :: vs).reverse.dropLast = vs.reverse := by rw [el]; simp
      rw [ed]
      have tk : TK H1 (upd H1 W (.lst vs.reverse)) := TK.upd_lst eW
      have eL2 : upd H1 W (.lst vs.reverse) L = some (.lst us) := by rw [upd_ne nWL.symm]; exact eL
      refine ⟨_, rfl, .inl ⟨rfl, _, SqL.of eL2⟩, y, rfl, L, us, y, rfl, rfl, eL2, by rw [sizeLine_eq]; omega, ?_⟩
      have tk2 : TK H1 (upd (upd H1 W (.lst vs.reverse)) L (.lst (us ++ [y]))) := tk.trans (TK.upd_lst eL2)
      have eW2 : upd (upd H1 W (.lst vs.reverse)) L (.lst (us ++ [y])) W = some (.lst vs.reverse) := by rw [upd_ne nWL, upd_same]
      have hs2 : Same H (upd (upd H1 W (.lst vs.reverse)) L (.lst (us ++ [y]))) := same_over (same_over hs hW) nL
      refine ⟨_, rfl, .inl ⟨rfl, _, SqL.of eW2⟩, rfl, y, rfl, y, u, rfl, h1.mono tk2, fu, fun p zs hp hzs => ?_⟩
      have np : W ≠ p := ne_of_none eW2 hp
      have npL : L ≠ p := ne_of_none upd_same hp
      have lz := hzs.length
      have l2 := h2.length
      have l3 := len_size ts
      have up := u.size_pos
      refine ⟨W, p, _, zs, rfl, rfl, by rw [upd_ne np]; exact eW2, SqT.of upd_same, by rw [List.length_reverse, sizeLine_eq]; omega, ?_⟩
      have tz := (TK.upd_new (o := .tup zs) hp).trans (TK.upd_lst (ys := vs.reverse ++ zs) (by rw [upd_ne np]; exact eW2))
      have tk3 := tk2.trans tz
      have hs3 := same_over (o := .lst (vs.reverse ++ zs)) (hs2.trans (same_upd (o := .tup zs) hp)) hW
      have eL4 : upd (upd (upd (upd H1 W (.lst vs.reverse)) L (.lst (us ++ [y]))) p (.tup zs)) W (.lst (vs.reverse ++ zs)) L = some (.lst (us ++ [y])) := by rw [upd_ne nWL.symm, upd_ne npL, upd_same]
      refine ⟨sizeAll (pt u) + sizeAll ts, by show _ < u.size + sizeAll ts; omega, zs.reverse ++ vs, (pt u).reverse ++ ts, us ++ [y], rs ++ [u], _, rfl, by rw [upd_same]; simp, eL4, ((hzs.mono tz).rev).append (h2.mono tk3), (hR.mono tk3).append (.cons (h1.mono tk3) .nil), ?_, by rw [sizeAll_app, sizeAll_rev], by omega, ?_, hs3⟩
      · rw [← hn, ndAll_app]
        show _ = rs ++ (nd u ++ ndAll nd ts)
        rw [Tr.nd u fu]
        simp
      · intro z hz'
        rcases List.mem_append.mp hz' with hz' | hz'
        · exact hup z (List.mem_reverse.mp hz')
        · exact hks z (List.mem_cons_of_mem _ hz')
end
end V1

namespace V1
open PySem PySem.Spec PyProof.Rows L2 KT
open PySem.W (Frag)
/-- a number, a truth value, a text -/
inductive Scl : V → Prop
  | i (n : Int) : Scl (.int n)
  | b (x : Bool) : Scl (.bl x)
  | s (z : Str) : Scl (.str z)
  | o : Scl .non
/-- equal data, to the depth k -/
def SameDt (H : Hp) : Nat → V → V → Prop
  | 0, v, v' => v' = v ∧ Scl v
  | k + 1, v, v' => (v' = v ∧ Scl v) ∨ ∃ a a' xs ys, v = .ref a ∧ v' = .ref a' ∧ ((H a = some (.lst xs) ∧ H a' = some (.lst ys)) ∨ (H a = some (.tup xs) ∧ H a' = some (.tup ys))) ∧ xs.length = ys.length ∧ xs.length ≤ 1000000 ∧
    ∀ (i : Nat) (x y : V), xs[i]? = some x → ys[i]? = some y → SameDt H k x y
theorem SameDt.mono {H H' : Hp} (s : Same H H') : ∀ {k : Nat} {v v' : V}, SameDt H k v v' → SameDt H' k v v'
  | 0, _, _, h => h
  | k + 1, _, _, h => by
    rcases h with h | ⟨a, a', xs, ys, e1, e2, h, hl, hm, hx⟩
    · exact .inl h
    · exact .inr ⟨a, a', xs, ys, e1, e2, h.imp (fun q => ⟨s _ _ q.1, s _ _ q.2⟩) fun q => ⟨s _ _ q.1, s _ _ q.2⟩, hl, hm, fun i x y h1 h2 => (hx i x y h1 h2).mono s⟩
theorem SameDt.up {H : Hp} : ∀ {k : Nat} {v v' : V}, SameDt H k v v' → SameDt H (k + 1) v v'
  | 0, _, _, h => .inl h
  | k + 1, _, _, h => by
    rcases h with h | ⟨a, a', xs, ys, e1, e2, h, hl, hm, hx⟩
    · exact .inl h
    · exact .inr ⟨a, a', xs, ys, e1, e2, h, hl, hm, fun i x y h1 h2 => (hx i x y h1 h2).up⟩
theorem SameDt.le {H : Hp} {k j : Nat} {v v' : V} (h : SameDt H k v v') (l : k ≤ j) : SameDt H j v v' := by
  induction j with
  | zero => obtain rfl : k = 0 := by omega
            exact h
  | succ j ih =>
    by_cases e : k = j + 1
    · rw [← e]; exact h
    · exact (ih (by omega)).up
theorem SameDt.scl {H : Hp} {k : Nat} {v : V} (h : Scl v) : SameDt H k v v := by
  cases k
  · exact ⟨rfl, h⟩
  · exact .inl ⟨rfl, h⟩
theorem SameDt.ty {H : Hp} {v v' : V} {t : Ty} (h : TyAt H v t) : TyAt H v' t → SameDt H t.signs v v' := by
  induction h generalizing v' with
  | w h =>
    intro h'
    cases h'
    exact ⟨rfl, .s _⟩
  | @n p g x y a b e h1 h2 i j =>
    intro h'
    cases h' with
    | @n p' _ x' y' _ _ e' k1 k2 =>
      have q : SameDt H (a.signs + b.signs + 1) (.ref p) (.ref p') := by
        refine .inr ⟨p, p', _, _, rfl, rfl, .inr ⟨e, e'⟩, rfl, by show 3 ≤ 1000000; omega, fun i' u u' h3 h4 => ?_⟩
        match i', h3, h4 with
        | 0, h3, h4 =>
          obtain rfl := Option.some.inj h3
          obtain rfl := Option.some.inj h4
          exact .scl (.s _)
        | 1, h3, h4 =>
          obtain rfl := Option.some.inj h3
          obtain rfl := Option.some.inj h4
          exact (i k1).le (by omega)
        | 2, h3, h4 =>
          obtain rfl := Option.some.inj h3
          obtain rfl := Option.some.inj h4
          exact (j k2).le (by omega)
        | n + 3, h3, h4 => exact absurd h3 (by simp)
      exact q.le (by simp only [Ty.signs]; omega)
theorem walk_zipT {K : Frag} {a b : Addr} {xs ys : List V} {n : Nat} (hn : n = min xs.length ys.length) : Walk (RZ.ItzT K a b) n (fun H => SqT K H a xs ∧ SqT K H b ys) (YPair (fun i => xs[i]?) (fun i => ys[i]?)) := by
  subst hn
  refine ⟨fun i _ hi q => ?_, fun _ q => ⟨xs, ys, q.1, q.2, by omega⟩, fun i H v H' _ q y => ?_⟩
  · have h1 : i < xs.length := by omega
    have h2 : i < ys.length := by omega
    exact ⟨xs, ys, xs[i], ys[i], q.1, q.2, by simp [h1], by simp [h2]⟩
  · obtain ⟨T, x, z, h1, h2, h3, h4, h5⟩ := y
    exact ⟨T, x, z, h1, h2, h3, h4 xs q.1, h5 ys q.2⟩
theorem pe_never {X : Cx} {e : Expr} : PE X e (fun _ _ _ => False) := ⟨fun _ _ _ _ _ _ h => h.elim⟩
section
variable {P : Program} {w : World} {K : Frag} {mg : Str → Option Value} {base : Heap}
def spExact (d : Nat) : Sp := fun vs H Q _ => ∃ v v', vs = [v, v'] ∧ SameDt H d v v' ∧ ∀ H', Same H H' → Q (.bl true) H'
theorem scl_ty {v : V} (h : Scl v) : ∃ (c : String) (bi bb : Bool), (∀ H, TyX K H v (.type c)) ∧ PySem.W.kitAny K (.type c) [.type "list", .type "tuple"] = some false ∧ PySem.W.kitOne K (.type c) (.type "dict") = some false ∧
    PySem.W.kitOne K (.type c) (.type "int") = some bi ∧ PySem.W.kitOne K (.type c) (.type "bool") = some bb ∧ scal v v = true := by
  have f2 : ∀ c : String, kitB c "list" = some false → kitB c "tuple" = some false → PySem.W.kitAny K (.type c) [.type "list", .type "tuple"] = some false := by
    intro c h1 h2
    exact kitAny_cons (kit_ty h1) (fun _ => kitAny_cons (kit_ty h2) (fun _ => kitAny_nil) (fun z => by cases z)) (fun z => by cases z)
  cases h with
  | i n => exact ⟨"int", true, false, fun _ => .base (.int n), f2 _ (by decide +kernel) (by decide +kernel), kit_ty (by decide +kernel), kit_ty (by decide +kernel), kit_ty (by decide +kernel), rfl⟩
  | b x => exact ⟨"bool", true, true, fun _ => .base (.bl x), f2 _ (by decide +kernel) (by decide +kernel), kit_ty (by decide +kernel), kit_ty (by decide +kernel), kit_ty (by decide +kernel), rfl⟩
  | o => exact ⟨"NoneType", false, false, fun _ => .base .non, f2 _ (by decide +kernel) (by decide +kernel), kit_ty (by decide +kernel), kit_ty (by decide +kernel), kit_ty (by decide +kernel), rfl⟩
  | s z => exact ⟨"str", false, false, fun _ => .base (.str z), f2 _ (by decide +kernel) (by decide +kernel), kit_ty (by decide +kernel), kit_ty (by decide +kernel), kit_ty (by decide +kernel), rfl⟩
theorem ok_exact {f : Addr} {fd : FuncData} (T : Top K mg "_law_exact" sLExact pLExact f fd) (B : Blt mg) : ∀ d : Nat, d ≤ 60 → FnOk P w K mg base CX0 (1 + d) f fd pLExact (spExact d)
  | 0, _ => by
    refine T.F.ok scLExact (fun vs H Q E h => ?_) (fun cdv A outer s H vs Q E hr h => ?_)
    · obtain ⟨_, _, rfl, _⟩ := h
      rfl
    · obtain ⟨v, v', rfl, ⟨rfl, hs⟩, k⟩ := h
      refine ⟨_, (pss_cons (ps_if (pt_val (pe_callB call_isiT (by rfl) B.isi (by decide +kernel) (pa_cons (pv 0) (pa_cons (pe_tup (pa_cons (pe_bltn (v := .ty "list") (by rfl) B.list (by decide +kernel) rfl) (pa_cons (pe_bltn (v := .ty "tuple") (by rfl) B.tuple (by decide +kernel) rfl) pa_nil))) pa_nil)))) pss_never pss_nil)
      (pss_cons (ps_if (pt_val (pe_callB call_isi (by rfl) B.isi (by decide +kernel) (pa_cons (pv 0) (pa_cons (pe_bltn (v := .ty "dict") (by rfl) B.dict (by decide +kernel) rfl) pa_nil)))) pss_never pss_nil)
      (pss_cons (ps_set (i := 2) scLExact.nd rfl (Or.inl rfl) (pe_cmpR op_eq (pe_callB call_isi (by rfl) B.isi (by decide +kernel) (pa_cons (pv 0) (pa_cons (pe_bltn (v := .ty "int") (by rfl) B.int (by decide +kernel) rfl) pa_nil))) (pe_callB call_isi (by rfl) B.isi (by decide +kernel) (pa_cons (pv 1) (pa_cons (pe_bltn (v := .ty "int") (by rfl) B.int (by decide +kernel) rfl) pa_nil))) (nomark _)))
      (pss_one (ps_ret (pe_and (pv 2) (pe_and (pe_cmpR op_eq (pe_callB call_isi (by rfl) B.isi (by decide +kernel) (pa_cons (pv 0) (pa_cons (pe_bltn (v := .ty "bool") (by rfl) B.bool_ (by decide +kernel) rfl) pa_nil))) (pe_callB call_isi (by rfl) B.isi (by decide +kernel) (pa_cons (pv 1) (pa_cons (pe_bltn (v := .ty "bool") (by rfl) B.bool_ (by decide +kernel) rfl) pa_nil))) (nomark _)) (pe_one (pe_cmpR op_eq (pv 0) (pv 1) (nomark _)))))))))), ?_⟩
      obtain ⟨c, bi, bb, ty, k1, k2, k3, k4, sc⟩ := scl_ty (K := K) hs
      refine ⟨v', rfl, by show 2 ≤ sizeLine; rw [sizeLine_eq]; omega, fun p hp => ⟨v', p, _, _, _, false, rfl, upd_same, .cons (.ty "list") (.cons (.ty "tuple") .nil), ty _, k1, false, rfl, iteF ?_⟩⟩
      refine ⟨_, rfl, _, _, _, _, false, rfl, .ty "dict", ty _, k2, false, rfl, iteF ?_⟩
      refine ⟨_, rfl, _, _, _, _, bi, rfl, .ty "int", ty _, k3, _, rfl, _, _, _, _, bi, rfl, .ty "int", ty _, k3, rfl, ?_⟩
      refine ⟨_, rfl, true, congrArg V.bl (decide_eq_true rfl), ?_⟩
      refine ⟨_, rfl, _, _, _, _, bb, rfl, .ty "bool", ty _, k4, _, rfl, _, _, _, _, bb, rfl, .ty "bool", ty _, k4, rfl, true, congrArg V.bl (decide_eq_true rfl), ?_⟩
      refine ⟨_, rfl, _, rfl, sc, ?_⟩
      have e : decide (v' = v') = true := decide_eq_true rfl
      rw [e]
      exact k _ (same_upd hp)
  | d + 1, hd => by
    have GE : FnOk P w K mg base CX0 (1 + d) f fd pLExact (spExact d) := ok_exact T B d (by omega)
    refine T.F.ok (k := 1 + d) scLExact (fun vs H Q E h => ?_) (fun cdv A outer s H vs Q E hr h => ?_)
    · obtain ⟨_, _, rfl, _⟩ := h
      rfl
    · obtain ⟨v, v', rfl, hd', k⟩ := h
      refine ⟨_, (pss_cons (ps_if (pt_val (pe_callB call_isiT (by rfl) B.isi (by decide +kernel) (pa_cons (pv 0) (pa_cons (pe_tup (pa_cons (pe_bltn (v := .ty "list") (by rfl) B.list (by decide +kernel) rfl) (pa_cons (pe_bltn (v := .ty "tuple") (by rfl) B.tuple (by decide +kernel) rfl) pa_nil))) pa_nil)))) (pss_cons (ps_set (i := 2) scLExact.nd rfl (Or.inl rfl) (pe_and (pe_cmpR op_eq (pe_callB call_isi (by rfl) B.isi (by decide +kernel) (pa_cons (pv 1) (pa_cons (pe_bltn (v := .ty "list") (by rfl) B.list (by decide +kernel) rfl) pa_nil))) (pe_callB call_isi (by rfl) B.isi (by decide +kernel) (pa_cons (pv 0) (pa_cons (pe_bltn (v := .ty "list") (by rfl) B.list (by decide +kernel) rfl) pa_nil))) (nomark _)) (pe_one (pe_cmpR op_eq (pe_callB call_isi (by rfl) B.isi (by decide +kernel) (pa_cons (pv 1) (pa_cons (pe_bltn (v := .ty "tuple") (by rfl) B.tuple (by decide +kernel) rfl) pa_nil))) (pe_callB call_isi (by rfl) B.isi (by decide +kernel) (pa_cons (pv 0) (pa_cons (pe_bltn (v := .ty "tuple") (by rfl) B.tuple (by decide +kernel) rfl) pa_nil))) (nomark _)))))
      (pss_one (ps_ret (pe_and (pv 2) (pe_and (pe_cmpR op_eq (pe_callB call_len_seq (by rfl) B.len PySem.boot_len (pa_cons (pv 0) pa_nil)) (pe_callB call_len_seq (by rfl) B.len PySem.boot_len (pa_cons (pv 1) pa_nil)) (nomark _)) (pe_one (pe_callB (cr_all rfl) (by rfl) B.all (by decide +kernel) (pa_cons (pe_lc (own := [("a", 3), ("b", 4)]) (g := gTup K 2 (gCons (gName 3) (gCons (gName 4) gNil))) (tt := tYes) rfl scLExact.nd (RZ.pi_zipA (by rfl) B.zip (pa_cons (pv 0) (pa_cons (pv 1) pa_nil))) (blkOk_by (N := nLExact) (sc := defScope sLExact) (by decide +kernel)) (fun _ _ _ _ _ => pg_tup (by rfl) (pgs_cons (pg_name (i := 3) scLExact.nd rfl (Or.inl rfl)) (pgs_cons (pg_name (i := 4) scLExact.nd rfl (Or.inl rfl)) pgs_nil))) (fun _ _ _ _ _ => pts_nil)
            (fun _ _ _ _ _ => (pe_call GE hr rfl T.g T.F.kp T.b .nil pass0 (pa_cons (pv 3) (pa_cons (pv 4) pa_nil))))) pa_nil)))))))) pss_nil)
      (pss_cons (ps_if (pt_val (pe_callB call_isi (by rfl) B.isi (by decide +kernel) (pa_cons (pv 0) (pa_cons (pe_bltn (v := .ty "dict") (by rfl) B.dict (by decide +kernel) rfl) pa_nil)))) pss_never pss_nil)
      (pss_cons (ps_set (i := 2) scLExact.nd rfl (Or.inl rfl) (pe_cmpR op_eq (pe_callB call_isi (by rfl) B.isi (by decide +kernel) (pa_cons (pv 0) (pa_cons (pe_bltn (v := .ty "int") (by rfl) B.int (by decide +kernel) rfl) pa_nil))) (pe_callB call_isi (by rfl) B.isi (by decide +kernel) (pa_cons (pv 1) (pa_cons (pe_bltn (v := .ty "int") (by rfl) B.int (by decide +kernel) rfl) pa_nil))) (nomark _)))
      (pss_one (ps_ret (pe_and (pv 2) (pe_and (pe_cmpR op_eq (pe_callB call_isi (by rfl) B.isi (by decide +kernel) (pa_cons (pv 0) (pa_cons (pe_bltn (v := .ty "bool") (by rfl) B.bool_ (by decide +kernel) rfl) pa_nil))) (pe_callB call_isi (by rfl) B.isi (by decide +kernel) (pa_cons (pv 1) (pa_cons (pe_bltn (v := .ty "bool") (by rfl) B.bool_ (by decide +kernel) rfl) pa_nil))) (nomark _)) (pe_one (pe_cmpR op_eq (pv 0) (pv 1) (nomark _)))))))))), ?_⟩
      rcases hd' with ⟨rfl, hs⟩ | ⟨a, a', xs, ys, rfl, rfl, hk, hl, hm, hx⟩
      · obtain ⟨c, bi, bb, ty, k1, k2, k3, k4, sc⟩ := scl_ty (K := K) hs
        refine ⟨v', rfl, by show 2 ≤ sizeLine; rw [sizeLine_eq]; omega, fun p hp => ⟨v', p, _, _, _, false, rfl, upd_same, .cons (.ty "list") (.cons (.ty "tuple") .nil), ty _, k1, false, rfl, iteF ?_⟩⟩
        refine ⟨_, rfl, _, _, _, _, false, rfl, .ty "dict", ty _, k2, false, rfl, iteF ?_⟩
        refine ⟨_, rfl, _, _, _, _, bi, rfl, .ty "int", ty _, k3, _, rfl, _, _, _, _, bi, rfl, .ty "int", ty _, k3, rfl, ?_⟩
        refine ⟨_, rfl, true, congrArg V.bl (decide_eq_true rfl), ?_⟩
        refine ⟨_, rfl, _, _, _, _, bb, rfl, .ty "bool", ty _, k4, _, rfl, _, _, _, _, bb, rfl, .ty "bool", ty _, k4, rfl, true, congrArg V.bl (decide_eq_true rfl), ?_⟩
        refine ⟨_, rfl, _, rfl, sc, ?_⟩
        have e : decide (v' = v') = true := decide_eq_true rfl
        rw [e]
        exact k _ (same_upd hp)

      · rcases hk with ⟨h1, h2⟩ | ⟨h1, h2⟩
        · have tyA : ∀ p, H p = none → ∀ b zs, H b = some (.lst zs) → TyX K (upd H p (.tup [.ty "list", .ty "tuple"])) (.ref b) (.type "list") := fun p hp b zs e => .base (.lst (show upd H p _ b = _ by rw [upd_ne (ne_of_none e hp)]; exact e))
          refine ⟨.ref a, rfl, by show 2 ≤ sizeLine; rw [sizeLine_eq]; omega, fun p hp => ⟨.ref a, p, _, _, _, true, rfl, upd_same, .cons (.ty "list") (.cons (.ty "tuple") .nil), tyA p hp a xs h1, kitAny_cons (b := true) (kit_ty (by decide +kernel)) (fun z => by cases z) (fun _ => rfl), true, rfl, iteT ?_⟩⟩
          have s1 : Same H (upd H p (.tup [.ty "list", .ty "tuple"])) := same_upd hp
          refine ⟨_, rfl, _, _, _, _, true, rfl, .ty "list", tyA p hp a' ys h2, kit_ty (by decide +kernel), _, rfl, _, _, _, _, true, rfl, .ty "list", tyA p hp a xs h1, kit_ty (by decide +kernel), rfl, true, congrArg V.bl (decide_eq_true rfl), ?_⟩
          refine ⟨_, rfl, _, _, _, _, false, rfl, .ty "tuple", tyA p hp a' ys h2, kit_ty (by decide +kernel), _, rfl, _, _, _, _, false, rfl, .ty "tuple", tyA p hp a xs h1, kit_ty (by decide +kernel), rfl, ?_⟩
          refine ⟨_, rfl, true, congrArg V.bl (decide_eq_true rfl), ?_⟩
          refine ⟨_, rfl, a, xs, rfl, .inl (SqL.of (s1 _ _ h1)), _, rfl, a', ys, rfl, .inl (SqL.of (s1 _ _ h2)), rfl, true, congrArg V.bl (decide_eq_true (by rw [hl])), ?_⟩
          refine ⟨_, rfl, _, rfl, a, a', xs, ys, rfl, .inl ⟨SqL.of (s1 _ _ h1), SqL.of (s1 _ _ h2), fun D hD => ?_⟩⟩
          have sD : Same H (upd (upd H p (.tup [.ty "list", .ty "tuple"])) D (.lst [])) := s1.trans (same_upd hD)
          have nHD : H D = none := s1.free hD
          refine lc_it (walk_zip (n := xs.length) (by omega)) (fun i H' => Same H H' ∧ H' D = some (.lst (List.replicate i (.bl true)))) ⟨sD, upd_same⟩ (fun i H' _ q => ⟨SqL.of (q.1 _ _ h1), SqL.of (q.1 _ _ h2)⟩) ?_ ?_
          · rintro i x H' H2 hi ⟨sI, eD⟩ ⟨Tp, x1, x2, rfl, nT, rfl, g1, g2⟩
            have s2 : Same H' (upd H' Tp (.tup [x1, x2])) := same_upd nT
            refine ⟨Tp, _, rfl, SqT.of upd_same, rfl, _, _, rfl, _, _, rfl, rfl, rfl, ?_⟩
            refine ⟨_, rfl, _, rfl, x1, x2, rfl, (hx i x1 x2 g1 g2).mono (sI.trans s2), fun H3 s3 => ⟨_, s3 _ _ (s2 _ _ eD), by rw [List.length_replicate, sizeLine_eq]; omega, ?_, ?_⟩⟩
            · exact same_over ((sI.trans s2).trans s3) nHD
            · rw [upd_same, ← List.replicate_succ']
          · rintro H' ⟨sI, eD⟩
            refine ⟨D, List.replicate xs.length true, rfl, SqL.of (by rw [eD, List.map_replicate]), ?_⟩
            have e : (List.replicate xs.length true).all id = true := by
              rw [List.all_eq_true]
              intro b hb
              exact (List.mem_replicate.mp hb).2
            rw [e]
            exact k _ sI
        · have tyA : ∀ p, H p = none → ∀ b zs, H b = some (.tup zs) → TyX K (upd H p (.tup [.ty "list", .ty "tuple"])) (.ref b) (.type "tuple") := fun p hp b zs e => .base (.tup (show upd H p _ b = _ by rw [upd_ne (ne_of_none e hp)]; exact e))
          refine ⟨.ref a, rfl, by show 2 ≤ sizeLine; rw [sizeLine_eq]; omega, fun p hp => ⟨.ref a, p, _, _, _, true, rfl, upd_same, .cons (.ty "list") (.cons (.ty "tuple") .nil), tyA p hp a xs h1, kitAny_cons (b := false) (kit_ty (by decide +kernel)) (fun _ => kitAny_cons (b := true) (kit_ty (by decide +kernel)) (fun z => by cases z) (fun _ => rfl)) (fun z => by cases z), true, rfl, iteT ?_⟩⟩
          have s1 : Same H (upd H p (.tup [.ty "list", .ty "tuple"])) := same_upd hp
          refine ⟨_, rfl, _, _, _, _, false, rfl, .ty "list", tyA p hp a' ys h2, kit_ty (by decide +kernel), _, rfl, _, _, _, _, false, rfl, .ty "list", tyA p hp a xs h1, kit_ty (by decide +kernel), rfl, true, congrArg V.bl (decide_eq_true rfl), ?_⟩
          refine ⟨_, rfl, _, _, _, _, true, rfl, .ty "tuple", tyA p hp a' ys h2, kit_ty (by decide +kernel), _, rfl, _, _, _, _, true, rfl, .ty "tuple", tyA p hp a xs h1, kit_ty (by decide +kernel), rfl, ?_⟩
          refine ⟨_, rfl, true, congrArg V.bl (decide_eq_true rfl), ?_⟩
          refine ⟨_, rfl, a, xs, rfl, .inr (SqT.of (s1 _ _ h1)), _, rfl, a', ys, rfl, .inr (SqT.of (s1 _ _ h2)), rfl, true, congrArg V.bl (decide_eq_true (by rw [hl])), ?_⟩
          refine ⟨_, rfl, _, rfl, a, a', xs, ys, rfl, .inr ⟨SqT.of (s1 _ _ h1), SqT.of (s1 _ _ h2), fun D hD => ?_⟩⟩
          have sD : Same H (upd (upd H p (.tup [.ty "list", .ty "tuple"])) D (.lst [])) := s1.trans (same_upd hD)
          have nHD : H D = none := s1.free hD
          refine lc_it (walk_zipT (n := xs.length) (by omega)) (fun i H' => Same H H' ∧ H' D = some (.lst (List.replicate i (.bl true)))) ⟨sD, upd_same⟩ (fun i H' _ q => ⟨SqT.of (q.1 _ _ h1), SqT.of (q.1 _ _ h2)⟩) ?_ ?_
          · rintro i x H' H2 hi ⟨sI, eD⟩ ⟨Tp, x1, x2, rfl, nT, rfl, g1, g2⟩
            have s2 : Same H' (upd H' Tp (.tup [x1, x2])) := same_upd nT
            refine ⟨Tp, _, rfl, SqT.of upd_same, rfl, _, _, rfl, _, _, rfl, rfl, rfl, ?_⟩
            refine ⟨_, rfl, _, rfl, x1, x2, rfl, (hx i x1 x2 g1 g2).mono (sI.trans s2), fun H3 s3 => ⟨_, s3 _ _ (s2 _ _ eD), by rw [List.length_replicate, sizeLine_eq]; omega, ?_, ?_⟩⟩
            · exact same_over ((sI.trans s2).trans s3) nHD
            · rw [upd_same, ← List.replicate_succ']
          · rintro H' ⟨sI, eD⟩
            refine ⟨D, List.replicate xs.length true, rfl, SqL.of (by rw [eD, List.map_replicate]), ?_⟩
            have e : (List.replicate xs.length true).all id = true := by
              rw [List.all_eq_true]
              intro b hb
              exact (List.mem_replicate.mp hb).2
            rw [e]
            exact k _ sI
end
end V1

namespace V1
open PySem PySem.Spec PyProof.Rows L2 LamX KT
open PySem.W (Frag)
section
variable {P : Program} {w : World} {K : Frag} {mg : Str → Option Value} {base : Heap}
def spLSigns (d : Nat) : Sp := fun vs H Q _ => ∃ v t, vs = [v] ∧ TyAt H v t ∧ t.signs ≤ d ∧ Q (.int t.signs) H
def D.pl (m : Int) : D → Bool
  | .i n => decide (0 ≤ n) && decide (n < m)
  | _ => false
def spIsPlace : Sp := fun vs H Q _ => ∃ v d m, vs = [v, .int m] ∧ DAt H v d ∧ Q (.bl (d.pl m)) H
theorem kd_t {ds : List D} (h : (D.t ds).isKd = true) : ∃ g a b, ds = [.s g, a, b] := by
  unfold D.isKd at h
  obtain ⟨t, ht⟩ := Option.isSome_iff_exists.mp h
  simp only [D.ty] at ht
  obtain ⟨g, x, y, a, b, e, _⟩ := mkTy_inv ht
  exact ⟨_, x, y, e⟩
theorem kd_3 (g : Str) (a b : D) : (D.t [.s g, a, b]).isKd = ((sgOf g).isSome && (a.isKd && b.isKd)) := by
  simp only [D.isKd, D.ty, tyAll, mkTy]
  cases e : sgOf g <;> cases a.ty <;> cases b.ty <;> simp [e]
theorem sg_in (g : Str) : inV (.str g) [V.str "over", .str "under", .str "then"] = (sgOf g).isSome := by
  have e := inV_str g [("over" : Str), "under", "then"]
  show inV (.str g) ([("over" : Str), "under", "then"].map V.str) = _
  rw [e]
  unfold sgOf
  by_cases h1 : g = "over"
  · subst h1
    decide +kernel
  · by_cases h2 : g = "then"
    · subst h2
      decide +kernel
    · by_cases h3 : g = "under"
      · subst h3
        decide +kernel
      · simp [h1, h2, h3]
def spLIsKind (n : Nat) : Sp := fun vs H Q _ => ∃ v d, vs = [v] ∧ DAt H v d ∧ d.dep ≤ n ∧ ∀ H', Same H H' → Q (.bl d.isKd) H'
theorem fn_vac {f : Addr} {fd : FuncData} {ps : List Str} : FnOk P w K mg base CX0 0 f fd ps (fun _ _ _ _ => False) := ⟨fun _ _ _ _ h => h.elim, fun _ _ _ _ _ _ _ _ _ _ _ _ _ h => h.elim⟩
theorem lisKind_step {f : Addr} {fd : FuncData} (T : Top K mg "_law_is_kind" sLIsKind pLIsKind f fd) (B : Blt mg) {n m : Nat} {sp' : Sp} (GP : FnOk P w K mg base CX0 m f fd pLIsKind sp')
    (hsp : ∀ v d H Q, DAt H v d → d.dep + 1 ≤ n → (∀ H', Same H H' → Q (.bl d.isKd) H') → sp' [v] H Q L2.E0) : FnOk P w K mg base CX0 (m + 1) f fd pLIsKind (spLIsKind n) := by
  refine T.F.ok scLIsKind (fun vs H Q E h => ?_) (fun cdv A outer s H vs Q E hr h => ?_)
  · obtain ⟨_, _, rfl, _⟩ := h
    rfl
  · obtain ⟨v, d, rfl, hd, hn, k⟩ := h
    refine ⟨_, (pss_cons (ps_if (pt_val (pe_callB call_isi (by rfl) B.isi (by decide +kernel) (pa_cons (pv 0) (pa_cons (pe_bltn (v := .ty "str") (by rfl) B.str_ (by decide +kernel) rfl) pa_nil)))) (pss_one (ps_ret (pe_and (pe_chain op_lt op_lt pe_int (pe_callB call_len_str (by rfl) B.len PySem.boot_len (pa_cons (pv 0) pa_nil)) pe_int) (pe_one (pe_callB (cr_all rfl) (by rfl) B.all (by decide +kernel) (pa_cons (pe_lc (own := [("letter", 1)]) (g := gName 1) (tt := tYes) rfl scLIsKind.nd (pi_str (pv 0)) (blkOk_by (N := nLIsKind) (sc := defScope sLIsKind) (by decide +kernel)) (fun _ _ _ _ _ => pg_name (i := 1) scLIsKind.nd rfl (Or.inl rfl)) (fun _ _ _ _ _ => pts_nil) (fun _ _ _ _ _ => (pe_cmpR op_in_sign (pv 1) pe_str (by rfl)))) pa_nil)))))) pss_nil)
      (pss_cons (ps_if (PW.pt (pw_or (pt_not (pt_val (pe_callB call_isi (by rfl) B.isi (by decide +kernel) (pa_cons (pv 0) (pa_cons (pe_bltn (v := .ty "tuple") (by rfl) B.tuple (by decide +kernel) rfl) pa_nil))))) (pw_or (pt_cmpR op_ne (pe_callB call_len_seq (by rfl) B.len PySem.boot_len (pa_cons (pv 0) pa_nil)) pe_int (nomark _)) (pw_or1 (pt_not (pt_val (pe_callB call_isi (by rfl) B.isi (by decide +kernel) (pa_cons (pe_ix ix_tup (pv 0) pe_int (fun _ _ => rfl)) (pa_cons (pe_bltn (v := .ty "str") (by rfl) B.str_ (by decide +kernel) rfl) pa_nil))))))))) (pss_one (ps_ret pe_bl)) pss_nil)
      (pss_one (ps_ret (pe_and (pe_cmpR op_in_seq (pe_ix ix_tup (pv 0) pe_int (fun _ _ => rfl)) (pe_tup (pa_cons pe_str (pa_cons pe_str (pa_cons pe_str pa_nil)))) (by rfl)) (pe_and (pe_call GP hr rfl T.g T.F.kp T.b .nil pass0 (pa_cons (pe_ix ix_tup (pv 0) pe_int (fun _ _ => rfl)) pa_nil)) (pe_one (pe_call GP hr rfl T.g T.F.kp T.b .nil pass0 (pa_cons (pe_ix ix_tup (pv 0) pe_int (fun _ _ => rfl)) pa_nil))))))))), ?_⟩
    refine ⟨_, rfl, _, _, _, _, d.isStr, rfl, .ty "str", hd.tyx, d.kstr, _, rfl, ?_⟩
    have k0 := k H (Same.refl H)
    cases hd with
    | i m => exact iteF ⟨_, rfl, _, _, _, _, false, rfl, .ty "tuple", .base (.int m), kit_ty (by decide +kernel), _, rfl, iteT k0⟩
    | o => exact iteF ⟨_, rfl, _, _, _, _, false, rfl, .ty "tuple", .base .non, kit_ty (by decide +kernel), _, rfl, iteT k0⟩
    | @s z hz =>
      have hl := hz.2
      have e0 : (D.s z).isKd = (decide (1 ≤ z.length) && decide (z.length ≤ 8) && z.cps.toList.all fun c => decide (97 ≤ c) && decide (c ≤ 122)) := nsig_ty rfl
      rw [e0] at k k0
      refine iteT ⟨_, rfl, _, rfl, by rw [sizeLine_eq]; omega, _, _, rfl, rfl, _, rfl, ?_⟩
      by_cases c1 : 1 ≤ z.length
      · rw [decide_eq_true (show (0 : Int) < (z.length : Int) by omega)]
        refine iteT ⟨_, _, rfl, rfl, _, rfl, ?_⟩
        by_cases c2 : z.length ≤ 8
        · rw [decide_eq_true (show (z.length : Int) < 9 by omega)]
          refine iteT ⟨_, rfl, _, rfl, fun W hW => ?_⟩
          rw [decide_eq_true c1, decide_eq_true c2, Bool.true_and, Bool.true_and] at k
          refine lc_it walk_str (fun i H' => H' = upd H W (.lst ((z.cps.toList.take i).map fun c => V.bl (decide (c ∈ abc.cps.toList))))) (by rw [List.take_zero]; rfl) (fun _ _ _ _ => trivial) ?_ ?_
          · rintro i x H' H2 hi rfl ⟨rfl, c, hc, rfl⟩
            have hc' : z.cps.toList[i]? = some c := by rw [Array.getElem?_toList]; exact hc
            refine ⟨rfl, _, rfl, c, abc, rfl, rfl, _, upd_same, ?_, ?_⟩
            · rw [List.length_map, List.length_take, sizeLine_eq]
              have : z.cps.size ≤ 1000000 := hl
              omega
            · rw [upd_upd, List.take_add_one, hc', List.map_append]
              rfl
          · rintro H' rfl
            have lz : z.cps.size = z.cps.toList.length := by simp
            refine ⟨_, z.cps.toList.map fun c => decide (c ∈ abc.cps.toList), rfl, SqL.of (by rw [upd_same, lz, List.take_length, List.map_map]; rfl), ?_⟩
            have e : (z.cps.toList.map fun c => decide (c ∈ abc.cps.toList)).all id = z.cps.toList.all fun c => decide (97 ≤ c) && decide (c ≤ 122) := by
              rw [List.all_map]
              congr 1
              funext c
              exact abc_iff c
            rw [e]
            exact k _ (same_upd hW)
        · rw [decide_eq_false (show ¬ (z.length : Int) < 9 by omega)]
          rw [decide_eq_false c2, Bool.and_false, Bool.false_and] at k0
          exact iteF k0
      · rw [decide_eq_false (show ¬ (0 : Int) < (z.length : Int) by omega)]
        rw [decide_eq_false c1, Bool.false_and, Bool.false_and] at k0
        exact iteF ⟨_, rfl, iteF k0⟩
    | @t p xs ds e h =>
      have hl := h.length
      refine iteF ⟨_, rfl, _, _, _, _, true, rfl, .ty "tuple", .base (.tup e), kit_ty (by decide +kernel), _, rfl, iteF ⟨_, rfl, p, xs, rfl, .inr (SqT.of e), rfl, ?_⟩⟩
      by_cases c : xs.length = 3
      · refine ⟨_, congrArg (fun b => V.bl (!b)) (decide_eq_true (show V.int (xs.length : Int) = V.int 3 by rw [c]; rfl)), iteF ?_⟩
        rcases ds with _ | ⟨a0, _ | ⟨a1, _ | ⟨a2, _ | ⟨a3, ds⟩⟩⟩⟩
        · rw [hl] at c; simp at c
        · rw [hl] at c; simp at c
        · rw [hl] at c; simp at c
        · cases h with
          | @cons x0 _ _ _ h0 h => cases h with
            | @cons x1 _ _ _ h1 h => cases h with
              | @cons x2 _ _ _ h2 h =>
                cases h
                refine ⟨_, rfl, p, _, _, _, rfl, rfl, SqT.of e, atI_nat (j := 0) rfl, _, _, _, _, a0.isStr, rfl, .ty "str", h0.tyx, a0.kstr, _, rfl, ?_⟩
                cases ha : a0.isStr with
                | false =>
                  have e1 : (D.t [a0, a1, a2]).isKd = false := by
                    cases ek : (D.t [a0, a1, a2]).isKd with
                    | false => rfl
                    | true =>
                      obtain ⟨g, a, b, eq⟩ := kd_t ek
                      injection eq with eq _
                      rw [eq] at ha
                      cases ha
                  rw [e1] at k0
                  exact iteT k0
                | true =>
                  cases h0 with
                  | i n => cases ha
                  | o => cases ha
                  | t _ _ => cases ha
                  | @s g okg =>
                    rw [kd_3] at k k0
                    have dd : a1.dep + 1 ≤ n ∧ a2.dep + 1 ≤ n := by
                      simp only [D.dep, depAll] at hn
                      omega
                    refine iteF ⟨_, rfl, p, _, _, _, rfl, rfl, SqT.of e, atI_nat (j := 0) rfl, by show 3 ≤ sizeLine; rw [sizeLine_eq]; omega, fun q nq => ⟨q, _, rfl, .inr (SqT.of upd_same), rfl, rfl, ?_⟩⟩
                    rw [if_neg (by decide), sg_in]
                    have s1 := same_upd (o := .tup [.str "over", .str "under", .str "then"]) nq
                    cases sg : (sgOf g).isSome with
                    | false =>
                      rw [sg, Bool.false_and] at k
                      exact ⟨false, rfl, iteF (k _ s1)⟩
                    | true =>
                      rw [sg, Bool.true_and] at k
                      refine ⟨true, rfl, iteT ⟨_, rfl, p, _, _, _, rfl, rfl, SqT.of (s1 _ _ e), atI_nat (j := 1) rfl, hsp x1 a1 _ _ (h1.mono (TK.of_same s1)) dd.1 fun H2 s2 => ⟨_, rfl, ?_⟩⟩⟩
                      cases k1 : a1.isKd with
                      | false =>
                        rw [k1, Bool.false_and] at k
                        exact iteF (k _ (s1.trans s2))
                      | true =>
                        rw [k1, Bool.true_and] at k
                        exact iteT ⟨_, rfl, p, _, _, _, rfl, rfl, SqT.of (s2 _ _ (s1 _ _ e)), atI_nat (j := 2) rfl, hsp x2 a2 _ _ (h2.mono (TK.of_same (s1.trans s2))) dd.2 fun H3 s3 => k _ ((s1.trans s2).trans s3)⟩
        · rw [hl] at c; simp at c
      · refine ⟨_, congrArg (fun b => V.bl (!b)) (decide_eq_false (show ¬ V.int (xs.length : Int) = V.int 3 from fun z => c (by injection z with z; omega))), iteT ?_⟩
        have e1 : (D.t ds).isKd = false := by
          cases ek : (D.t ds).isKd with
          | false => rfl
          | true =>
            obtain ⟨g, a, b, eq⟩ := kd_t ek
            rw [eq] at hl
            exact absurd hl c
        rw [e1] at k0
        exact k0
theorem ok_lisKind {f : Addr} {fd : FuncData} (T : Top K mg "_law_is_kind" sLIsKind pLIsKind f fd) (B : Blt mg) : ∀ n : Nat, FnOk P w K mg base CX0 (1 + n) f fd pLIsKind (spLIsKind n)
  | 0 => lisKind_step T B fn_vac fun _ _ _ _ _ h _ => absurd h (by omega)
  | n + 1 => lisKind_step (m := 1 + n) T B (ok_lisKind T B n) fun v d H Q h1 h2 h3 => ⟨v, d, rfl, h1, by omega, h3⟩
end
end V1

namespace V1
open PySem PySem.Spec PyProof.Rows L2 LamX KT
open PySem.W (Frag)
/-! ### expressions that come to data -/
/-- from any heap that keeps H0 the expression comes to something that bears d -/
def Yd (t : TE) (σ : L2.St) (H0 : Hp) (d : D) : Prop := ∀ H, Same H0 H → ∀ Q : VK, (∀ v H', Same H H' → DAt H' v d → Q v H') → t σ H Q
def YdA (t : TA) (σ : L2.St) (H0 : Hp) (ds : List D) : Prop := ∀ H, Same H0 H → ∀ Q : List V → Hp → Prop, (∀ vs H', Same H H' → DsAt H' vs ds → Q vs H') → t σ H Q
theorem Yd.mono {t : TE} {σ : L2.St} {H0 H1 : Hp} {d : D} (h : Yd t σ H0 d) (s : Same H0 H1) : Yd t σ H1 d := fun H s1 => h H (s.trans s1)
theorem yd_var {i : Nat} {σ : L2.St} {H0 : Hp} {v : V} {d : D} (e : σ[i]? = some (some v)) (h : DAt H0 v d) : Yd (tVar i) σ H0 d := fun H s Q q => ⟨v, e, q v H (Same.refl H) (h.mono (TK.of_same s))⟩
theorem yd_str {σ : L2.St} {H0 : Hp} {z : Str} (ok : TxtOk z) : Yd (tC (.str z)) σ H0 (.s z) := fun H _ Q q => q _ H (Same.refl H) (.s ok)
theorem yd_int {σ : L2.St} {H0 : Hp} {n : Int} : Yd (tC (.int n)) σ H0 (.i n) := fun H _ Q q => q _ H (Same.refl H) (.i n)
theorem yda_nil {σ : L2.St} {H0 : Hp} : YdA tNil σ H0 [] := fun H _ Q q => q [] H (Same.refl H) .nil
theorem yda_cons {t : TE} {tr : TA} {σ : L2.St} {H0 : Hp} {d : D} {ds : List D} (h : Yd t σ H0 d) (hr : YdA tr σ H0 ds) : YdA (tCons t tr) σ H0 (d :: ds) := fun H s Q q =>
  h H s _ fun v H1 s1 hv => hr H1 (s.trans s1) _ fun vs H2 s2 hvs => q (v :: vs) H2 (s1.trans s2) (.cons (hv.mono (TK.of_same s2)) hvs)
theorem yd_tup {t : TA} {σ : L2.St} {H0 : Hp} {ds : List D} (h : YdA t σ H0 ds) (l : ds.length ≤ 100) : Yd (tTup t) σ H0 (.t ds) := fun H s Q q =>
  h H s _ fun vs H1 s1 hvs => ⟨by rw [hvs.length, sizeLine_eq]; omega, fun p np => q _ _ (s1.trans (same_upd np)) (.t upd_same (hvs.mono (TK.upd_new np)))⟩
theorem yda1 {t : TE} {σ : L2.St} {H0 : Hp} {d : D} (h : Yd t σ H0 d) : YdA (tCons t tNil) σ H0 [d] := yda_cons h yda_nil
theorem yda2 {t u : TE} {σ : L2.St} {H0 : Hp} {d e : D} (h : Yd t σ H0 d) (h' : Yd u σ H0 e) : YdA (tCons t (tCons u tNil)) σ H0 [d, e] := yda_cons h (yda1 h')
theorem yda3 {t u w : TE} {σ : L2.St} {H0 : Hp} {d e f : D} (h : Yd t σ H0 d) (h' : Yd u σ H0 e) (h'' : Yd w σ H0 f) : YdA (tCons t (tCons u (tCons w tNil))) σ H0 [d, e, f] := yda_cons h (yda2 h' h'')
theorem yda4 {t u w x : TE} {σ : L2.St} {H0 : Hp} {d e f g : D} (h : Yd t σ H0 d) (h' : Yd u σ H0 e) (h'' : Yd w σ H0 f) (h3 : Yd x σ H0 g) : YdA (tCons t (tCons u (tCons w (tCons x tNil)))) σ H0 [d, e, f, g] := yda_cons h (yda3 h' h'' h3)
/-- a text, and others behind it -/
theorem yt2 {t : TE} {σ : L2.St} {H0 : Hp} {z : Str} {d : D} (ok : TxtOk z) (h : Yd t σ H0 d) : Yd (tTup (tCons (tC (.str z)) (tCons t tNil))) σ H0 (.t [.s z, d]) := yd_tup (yda2 (yd_str ok) h) (by simp)
theorem yt3 {t u : TE} {σ : L2.St} {H0 : Hp} {z : Str} {d e : D} (ok : TxtOk z) (h : Yd t σ H0 d) (h' : Yd u σ H0 e) : Yd (tTup (tCons (tC (.str z)) (tCons t (tCons u tNil)))) σ H0 (.t [.s z, d, e]) := yd_tup (yda3 (yd_str ok) h h') (by simp)
theorem yt4 {t u w : TE} {σ : L2.St} {H0 : Hp} {z : Str} {d e f : D} (ok : TxtOk z) (h : Yd t σ H0 d) (h' : Yd u σ H0 e) (h'' : Yd w σ H0 f) : Yd (tTup (tCons (tC (.str z)) (tCons t (tCons u (tCons w tNil))))) σ H0 (.t [.s z, d, e, f]) := yd_tup (yda4 (yd_str ok) h h' h'') (by simp)
/-- an item of a tuple of data -/
theorem yd_ixT {K : Frag} {t : TE} {σ : L2.St} {H0 : Hp} {ds : List D} {d : D} {i : Nat} (h : Yd t σ H0 (.t ds)) (e : ds[i]? = some d) : Yd (tOp (rIxT K) t (tC (.int (i : Int)))) σ H0 d := fun H s Q q => h H s _ fun v H1 s1 hv => by
  cases hv with
  | @t p xs _ ex hx =>
    obtain ⟨hi, _⟩ := List.getElem?_eq_some_iff.mp e
    have hl := hx.length
    obtain ⟨x, ee⟩ : ∃ x, xs[i]? = some x := ⟨xs[i], List.getElem?_eq_getElem (by omega)⟩
    obtain ⟨d', e', hd⟩ := hx.at_ ee
    obtain rfl := Option.some.inj (e'.symm.trans e)
    exact ⟨p, xs, (i : Int), x, rfl, rfl, SqT.of ex, atI_nat ee, q x H1 s1 hd⟩
/-- a call, all of whose arguments are data -/
theorem yd_call {sp : Sp} {E : XK} {t : TA} {σ : L2.St} {H0 : Hp} {ds : List D} {d : D} (h : YdA t σ H0 ds) (c : ∀ vs H Q, Same H0 H → DsAt H vs ds → (∀ v H', Same H H' → DAt H' v d → Q v H') → sp vs H Q E) : Yd (tCall sp [] E t) σ H0 d := fun H s Q q =>
  h H s _ fun vs H1 s1 hvs => by
    rw [List.append_nil]
    exact c vs H1 Q (s.trans s1) hvs fun v H' s' hv => q v H' (s1.trans s') hv
theorem gN {i : Nat} {v : V} {σ : L2.St} {H : Hp} {Q : L2.St → Hp → Prop} (h : Q (σ.set i (some v)) H) : gName i v σ H Q := h
/-- name = data -/
theorem yd_set {te : TE} {i : Nat} {u : TS} {D0 : Ends} {σ : L2.St} {H H0 : Hp} {d : D} (y : Yd te σ H0 d) (s : Same H0 H) (q : ∀ v H', Same H H' → DAt H' v d → u D0 (σ.set i (some v)) H') : tSeq (tAsg te (gName i)) u D0 σ H := y H s _ fun v H' s' h => q v H' s' h
theorem yd_ret {te : TE} {D0 : Ends} {σ : L2.St} {H H0 : Hp} {d : D} (y : Yd te σ H0 d) (s : Same H0 H) (q : ∀ v H', Same H H' → DAt H' v d → D0.rt v H') : tRet te D0 σ H := y H s _ fun v H' s' h => q v H' s' h
/-- a list of data, in a new list -/
theorem yda_lst {t : TA} {σ : L2.St} {H H0 : Hp} {ds : List D} {Q : VK} (y : YdA t σ H0 ds) (s : Same H0 H) (l : ds.length ≤ 100) (q : ∀ (L : Addr) vs H', Same H H' → H L = none → H' L = some (.lst vs) → DsAt H' vs ds → Q (.ref L) H') : tLst t σ H Q := y H s _ fun vs H1 s1 hvs => ⟨by rw [hvs.length, sizeLine_eq]; omega, fun L nL => q L vs _ (s1.trans (same_upd nL)) (s1.free nL) upd_same (hvs.mono (TK.upd_new nL))⟩
theorem yda_ret {t : TA} {D0 : Ends} {σ : L2.St} {H H0 : Hp} {ds : List D} (y : YdA t σ H0 ds) (s : Same H0 H) (l : ds.length ≤ 100) (q : ∀ (L : Addr) vs H', Same H H' → H L = none → H' L = some (.lst vs) → DsAt H' vs ds → D0.rt (.ref L) H') : tRet (tLst t) D0 σ H := yda_lst y s l q
theorem tx_over : TxtOk "over" := ⟨by decide +kernel, by decide +kernel⟩
theorem tx_under : TxtOk "under" := ⟨by decide +kernel, by decide +kernel⟩
theorem tx_then : TxtOk "then" := ⟨by decide +kernel, by decide +kernel⟩
end V1

namespace V1
open PySem PySem.Spec PyProof.Rows L2 LamX KT
open PySem.W (Frag)
/-! ### lists of data -/
def YdL (t : TE) (σ : L2.St) (H0 : Hp) (ds : List D) : Prop := ∀ H, Same H0 H → ∀ Q : VK, (∀ (L : Addr) vs H', Same H H' → H' L = some (.lst vs) → DsAt H' vs ds → Q (.ref L) H') → t σ H Q
theorem ydl_lst {t : TA} {σ : L2.St} {H0 : Hp} {ds : List D} (h : YdA t σ H0 ds) (l : ds.length ≤ 100) : YdL (tLst t) σ H0 ds := fun H s Q q => yda_lst h s l fun L vs H' s' _ e hv => q L vs H' s' e hv
theorem ydl_var {i : Nat} {σ : L2.St} {H0 : Hp} {L : Addr} {vs : List V} {ds : List D} (e : σ[i]? = some (some (.ref L))) (eL : H0 L = some (.lst vs)) (h : DsAt H0 vs ds) : YdL (tVar i) σ H0 ds := fun H s Q q => ⟨_, e, q L vs H (Same.refl H) (s _ _ eL) (h.mono (TK.of_same s))⟩
theorem ydl_cat {t u : TE} {σ : L2.St} {H0 : Hp} {ds es : List D} (h : YdL t σ H0 ds) (h' : YdL u σ H0 es) (l : ds.length + es.length ≤ 1000) : YdL (tOp rCat t u) σ H0 (ds ++ es) := fun H s Q q =>
  h H s _ fun L vs H1 s1 e1 d1 => h' H1 (s.trans s1) _ fun M us H2 s2 e2 d2 => ⟨L, M, vs, us, rfl, rfl, s2 _ _ e1, e2, by rw [d1.length, d2.length, sizeLine_eq]; omega, fun p np => q p _ _ ((s1.trans s2).trans (same_upd np)) upd_same (((d1.mono (TK.of_same s2)).append d2).mono (TK.upd_new np))⟩
/-- an index that is known -/
def Yi (t : TE) (σ : L2.St) (H0 : Hp) (i : Int) : Prop := ∀ H, Same H0 H → ∀ Q : VK, Q (.int i) H → t σ H Q
theorem yi_int {σ : L2.St} {H0 : Hp} {i : Int} : Yi (tC (.int i)) σ H0 i := fun _ _ _ q => q
theorem yi_var {i : Nat} {n : Int} {σ : L2.St} {H0 : Hp} (e : σ[i]? = some (some (.int n))) : Yi (tVar i) σ H0 n := fun _ _ _ q => ⟨_, e, q⟩
theorem yd_ixL {K : Frag} {t ti : TE} {σ : L2.St} {H0 : Hp} {ds : List D} {d : D} {i : Nat} (h : YdL t σ H0 ds) (hi : Yi ti σ H0 (i : Int)) (e : ds[i]? = some d) : Yd (tOp (rIxL K) t ti) σ H0 d := fun H s Q q =>
  h H s _ fun L vs H1 s1 e1 d1 => hi H1 (s.trans s1) _ (by
    obtain ⟨hi', _⟩ := List.getElem?_eq_some_iff.mp e
    have hl := d1.length
    obtain ⟨x, ee⟩ : ∃ x, vs[i]? = some x := ⟨vs[i], List.getElem?_eq_getElem (by omega)⟩
    obtain ⟨d', e', hd⟩ := d1.at_ ee
    obtain rfl := Option.some.inj (e'.symm.trans e)
    exact ⟨L, vs, (i : Int), x, rfl, rfl, SqL.of e1, atI_nat ee, q x H1 s1 hd⟩)
theorem ydl_set {te : TE} {i : Nat} {u : TS} {D0 : Ends} {σ : L2.St} {H H0 : Hp} {ds : List D} (y : YdL te σ H0 ds) (s : Same H0 H) (q : ∀ (L : Addr) vs H', Same H H' → H' L = some (.lst vs) → DsAt H' vs ds → u D0 (σ.set i (some (.ref L))) H') : tSeq (tAsg te (gName i)) u D0 σ H := y H s _ fun L vs H' s' e h => q L vs H' s' e h
theorem yd_ret' {te : TE} {D0 : Ends} {σ : L2.St} {H H0 : Hp} {d : D} (y : Yd te σ H0 d) (s : Same H0 H) (q : ∀ v H', Same H H' → DAt H' v d → D0.rt v H') : tRet te D0 σ H := yd_ret y s q
end V1

namespace V1
open PySem PySem.Spec PyProof.Rows L2 NdefX LamX KT
open PySem.W (Frag)
theorem cutV_from {xs : List V} {b : Nat} : cutV xs (some (b : Int)) none = xs.drop b := by
  unfold cutV
  rw [HT.sIx_nat]
  have e : HT.sIx xs.length xs.length none = xs.length := rfl
  rw [e]
  by_cases h : b ≤ xs.length
  · rw [Nat.min_eq_left h]
    exact List.take_of_length_le (by simp)
  · rw [Nat.min_eq_right (by omega), List.drop_of_length_le (by omega : xs.length ≤ b), Nat.sub_self, List.take_zero]
section
variable {P : Program} {w : World} {K : Frag} {mg : Str → Option Value} {base : Heap}
/-- a def of the top whose code object is at c -/
structure TopC (K : Frag) (mg : Str → Option Value) (x : Str) (st : Stmt) (ps : List Str) (f : Addr) (fd : FuncData) (c : Addr) : Prop where
  T : Top K mg x st ps f fd
  ex : ∃ (oc : Value) (od : Option Addr) (kV doc pm : Value) (an : Option Addr) (ct : Value) (osl : Array (Option Value)),
    fd = PySem.W.fnOf x x (defArgs st) (defBody st) (defScope st) .none kV doc pm an (.ref c) ct ∧ K.lookup f = some ⟨oc, od, .func fd, osl⟩ ∧ PySem.W.codeIn K (.ref c) x = true
theorem TopC.fnd {x : Str} {st : Stmt} {ps N : List Str} {f c : Addr} {fd : FuncData} {k : Nat} {sp : Pins → Sp} (T : TopC K mg x st ps f fd c) (S : FnScope N ps (defScope st)) (len : ∀ D vs H Q, sp D vs H Q L2.E0 → vs.length = ps.length)
    (body : ∀ (D : Pins) (B : Around) (outer : List Env) (s : Shared) (H : Hp) (vs : List V) (Q : VK), Room k (B.deeper (envOfC x (defScope st) s.heap.objs.size f (.ref c))) → Dep D outer s H → sp D vs H Q L2.E0 →
      ∃ t, PSs (cxOf L2.CX0 P w K mg base N x (defScope st) f (.ref c) B outer s H L2.E0).nox (defBody st) t ∧ t { nx := fun _ H' => Q .non H', rt := Q } (start N vs) H) : FnD P w K mg base (k + 1) f fd ps sp := by
  obtain ⟨oc, od, kV, doc, pm, an, ct, osl, rfl, lk, hcd⟩ := T.ex
  exact fnd_of lk hcd S len body
end
theorem extn_tk {H H' : Hp} (h : ExtN H H') : TK H H' := fun p xs e => h p _ e fun ps z => by cases z
theorem extn_same {H H' : Hp} (h : Same H H') : ExtN H H' := fun b o e _ => h b o e
theorem extn_lst {b : Addr} {H H' : Hp} {xs : List V} (h : ExtN H H') (e : H b = some (.lst xs)) : H' b = some (.lst xs) := h b _ e fun ps z => by cases z
theorem extn_dK {b : Addr} {H H' : Hp} {xs : List (Key × V)} (h : ExtN H H') (e : H b = some (.dK xs)) : H' b = some (.dK xs) := h b _ e fun ps z => by cases z
theorem extn_over {H H' : Hp} {W : Addr} {o : HO} (h : ExtN H H') (n : H W = none) : ExtN H (upd H' W o) := fun b u e m => by
  rw [upd_ne fun z => by rw [z, n] at e; cases e]
  exact h b u e m
theorem tabs_but {T : List (Addr × Str)} {H H' : Hp} {a : Addr} {o0 : HO} (t : Tabs T H) (e : H a = some o0) (n1 : ∀ ps, o0 ≠ .tbl ps) (n2 : ∀ c q, o0 ≠ CodeO c q) (k : ∀ b o, H b = some o → b ≠ a → H' b = some o) : Tabs T H' := fun p hp => by
  obtain ⟨ps, h1, h2, h3⟩ := t p hp
  refine ⟨ps, k _ _ h1 fun z => ?_, h2, fun pos cv hc => ?_⟩
  · rw [z, e] at h1
    exact n1 ps (Option.some.inj h1)
  · obtain ⟨c, e1, e2⟩ := h3 pos cv hc
    refine ⟨c, e1, k _ _ e2 fun z => ?_⟩
    rw [z, e] at e2
    exact n2 _ _ (Option.some.inj e2)
theorem tabs_lst {T : List (Addr × Str)} {H : Hp} {a : Addr} {xs : List V} {o : HO} (t : Tabs T H) (e : H a = some (.lst xs)) : Tabs T (upd H a o) := tabs_but t e (fun ps z => by cases z) (fun c q z => by cases z) fun b u h n => by rw [upd_ne n]; exact h
theorem DsAt.split {H : Hp} {ts rs : List D} : ∀ {us : List V}, DsAt H us (ts ++ rs) → DsAt H (us.take ts.length) ts ∧ DsAt H (us.drop ts.length) rs := by
  induction ts with
  | nil => intro us h; exact ⟨.nil, h⟩
  | cons t ts ih =>
    intro us h
    cases h with
    | cons h1 h2 =>
      obtain ⟨a, b⟩ := ih h2
      exact ⟨.cons h1 a, b⟩
section
variable {P : Program} {w : World} {K : Frag} {mg : Str → Option Value} {base : Heap}
def spNodeG (T : List (Addr × Str)) (pt : D → List D) (Ok : D → Prop) (H0 : Hp) (fo : D → D) : Sp := fun vs H Q _ => ∃ x u L us, vs = [x, .ref L] ∧ ExtN H0 H ∧ Tabs T H ∧ DAt H x u ∧ Ok u ∧ H L = some (.lst us) ∧ DsAt H us ((pt u).map fo) ∧ ∀ v' H', ExtN H H' → Tabs T H' → DAt H' v' (fo u) → Q v' H'
def spFIG (P : Program) (w : World) (K : Frag) (mg : Str → Option Value) (base : Heap) (m : Nat) (T : List (Addr × Str)) (pt nd : D → List D) (Dm : D → Prop) (fp : Addr) (D' : Pins) : Sp := fun vs H Q _ => ∃ v d f3 fo EX Ok H0, vs = [v, .ref fp, .ref f3] ∧ ExtN H0 H ∧ Tabs T H ∧ DAt H v d ∧ Dm d ∧ d.size ≤ 1000000 ∧ (∀ u ∈ nd d, Ok u) ∧
  Callee P w K mg base m f3 (spNodeG T pt Ok H0 fo) D' EX ∧ ExOk EX H ∧ (∀ p ∈ EX, ∀ ps, p.2 ≠ HO.tbl ps) ∧ ∀ v' H', ExtN H H' → Tabs T H' → DAt H' v' (fo d) → Q v' H'
theorem ok_fromInsideG {T : List (Addr × Str)} {pt nd : D → List D} {Dm : D → Prop} (Tr : Tree pt nd Dm) {m : Nat} (hm3 : 3 ≤ m) {f fn fp c : Addr} {fd fdn fdp : FuncData} {xp : Str} {sp_ : Stmt} {pp : List Str} (TI : TopC K mg "from_inside" sFromInside pFromInside f fd c) (TN : Top K mg "nodes_in" sNodesIn pNodesIn fn fdn) (TP : Top K mg xp sp_ pp fp fdp) (GP : FnOk P w K mg base CX0 2 fp fdp pp (spPartsG pt Dm)) (B : Blt mg) :
    FnD P w K mg base (m + 1) f fd pFromInside (spFIG P w K mg base m T pt nd Dm fp) := by
  have GN : FnOk P w K mg base CX0 3 fn fdn pNodesIn (spNodesG nd Dm fp) := ok_nodesG Tr TN TP GP
  refine TI.fnd scFromInside (fun DD vs H Q h => ?_) (fun DD A outer s H vs Q hr dp h => ?_)
  · obtain ⟨_, _, _, _, _, _, _, rfl, _⟩ := h
    rfl
  · obtain ⟨v, t, f3, fo, EX, Ok, H0, rfl, he0, hT0, ht, hk, hz, hok, C, hx, nx, k⟩ := h
    have hr3 : Room 3 _ := hr.mono hm3
    have hr2 : Room 2 _ := hr3.mono (by decide)
    refine ⟨_, (pss_cons (ps_set (i := 3) scFromInside.nd rfl (Or.inl rfl) (pe_lst pa_nil))
      (pss_cons (ps_for PassesOwn.never rfl (pi_reversed (by rfl) B.reversed (pa_cons (pe_call GN hr3 rfl TN.g TN.F.kp TN.b .nil pass0 (pa_cons (pv 0) (pa_cons (pv 1) pa_nil))) pa_nil)) (pg_name (i := 4) scFromInside.nd rfl (Or.inl rfl))
        (pss_cons (ps_set (i := 5) scFromInside.nd rfl (Or.inl rfl) (pe_op op_sub (pe_callB call_len_seq (by rfl) B.len PySem.boot_len (pa_cons (pv 3) pa_nil)) (pe_callB call_len_seq (by rfl) B.len PySem.boot_len (pa_cons (pe_callL (i := 1) (f := fp) GP hr2 rfl (.inl rfl) TP.F.kp TP.b .nil pass0 (pa_cons (pv 4) pa_nil)) pa_nil))))
      (pss_cons (ps_set (i := 6) scFromInside.nd rfl (Or.inl rfl) (pe_slice sl_list (pv 3) (po_some (pv 5)) po_none))
      (pss_cons (KT.ps_delTail (pv 3) (po_some (pv 5)))
      (pss_one (ps_expr (pe_bm PySem.F.plainAttrs_list PySem.F.slot_list_append PySem.F.type_list_append mt_append (pv 3) (pa_cons (pe_callee (i := 2) C hr rfl dp rfl (.inl rfl) (pa_cons (pv 4) (pa_cons (pv 6) pa_nil))) pa_nil))))))))
      (pss_one (ps_ret (pe_ix ix_list (pv 3) pe_int (fun _ _ => rfl)))))), ?_⟩
    refine ⟨by show 0 ≤ sizeLine; exact Nat.zero_le _, fun W hW => ?_⟩
    have sW : Same H (upd H W (.lst [])) := same_upd hW
    refine ⟨v, rfl, .ref fp, rfl, v, t, rfl, ht.mono (TK.of_same sW), hk, by omega, fun L ns H1 s1 nL eL hT => ?_⟩
    have nWL : W ≠ L := ne_of_none upd_same nL
    have nHL : H L = none := by
      rw [upd_ne nWL.symm] at nL
      exact nL
    have ln := hT.length
    obtain ⟨hnl, hna⟩ := Tr.len t.size t (Nat.le_refl _) hk
    refine ⟨L, ns, rfl, SqL.of eL, ?_⟩
    refine for_it walk_rev (fun i σ H' => ∃ (v4 v5 v6 : Option V) (us : List V) (S : List D), σ = [some v, some (.ref fp), some (.ref f3), some (.ref W), v4, v5, v6] ∧ H' W = some (.lst us) ∧ ExtN H H' ∧ Tabs T H' ∧ H' L = some (.lst ns) ∧ DsAt H' ns (nd t) ∧ DsAt H' us (S.map fo) ∧ S.length ≤ i ∧ RunG pt S ((nd t).reverse.drop i) [t])
      ⟨none, none, none, [], [], rfl, s1 _ _ upd_same, extn_same (sW.trans s1), hT0.ext (sW.trans s1), eL, hT, .nil, Nat.le_refl _, by have q := Tr.run t.size t (Nat.le_refl _) hk [] [] [t] .nil; simpa using q⟩ ?_ ?_ ?_
    · rintro i σ H' hi ⟨_, _, _, _, _, _, _, _, _, e, _⟩
      exact SqL.of e
    · rintro i x σ H' H2 hi ⟨v4, v5, v6, us, S, rfl, eW, hs, hT2, eL', hN, hU, hSi, hR⟩ ⟨rfl, hx'⟩
      obtain ⟨u, hu, hxu⟩ := hN.at_ hx'
      have mu := List.mem_of_getElem? hu
      have lN := hN.length
      have hd : (nd t).reverse.drop i = u :: (nd t).reverse.drop (i + 1) := by
        have q : (nd t).reverse[i]? = some u := by
          rw [List.getElem?_reverse (by omega), ← lN]
          exact hu
        obtain ⟨h1, h2⟩ := List.getElem?_eq_some_iff.mp q
        rw [List.drop_eq_getElem_cons h1, h2]
      rw [hd] at hR
      obtain ⟨S0, rfl, hR'⟩ := hR.inv
      have lU := hU.length
      rw [List.map_append] at hU
      obtain ⟨hU1, hU2⟩ := hU.split
      rw [List.length_map] at hU1 hU2
      rw [List.length_map, List.length_append] at lU
      rw [List.length_append] at hSi
      refine ⟨_, rfl, W, us, rfl, .inl (SqL.of eW), rfl, x, rfl, x, u, rfl, hxu, hna u mu, fun p zs hp hzs => ⟨p, zs, rfl, .inr (SqT.of upd_same), _, _, rfl, rfl, ?_⟩⟩
      have lz := hzs.length
      have e5 : (us.length : Int) - (zs.length : Int) = (S0.length : Int) := by omega
      dsimp only
      rw [e5]
      have np : W ≠ p := ne_of_none eW hp
      have npL : L ≠ p := ne_of_none eL' hp
      have eW1 : upd H2 p (.tup zs) W = some (.lst us) := by rw [upd_ne np]; exact eW
      refine ⟨_, rfl, _, rfl, _, rfl, W, us, rfl, SqL.of eW1, fun q hq => ?_⟩
      rw [cutV_from]
      have nq : W ≠ q := ne_of_none eW1 hq
      have npq : L ≠ q := ne_of_none (show upd H2 p (.tup zs) L = some (.lst ns) by rw [upd_ne npL]; exact eL') hq
      have eW2 : upd (upd H2 p (.tup zs)) q (.lst (us.drop S0.length)) W = some (.lst us) := by rw [upd_ne nq]; exact eW1
      refine ⟨_, rfl, _, rfl, _, rfl, W, us, S0.length, rfl, rfl, eW2, by omega, ?_⟩
      have s23 : Same H2 (upd (upd H2 p (.tup zs)) q (.lst (us.drop S0.length))) := (same_upd hp).trans (same_upd hq)
      have tk : TK H2 (upd (upd (upd H2 p (.tup zs)) q (.lst (us.drop S0.length))) W (.lst (us.take S0.length))) := ((TK.upd_new hp).trans (TK.upd_new hq)).trans (TK.upd_lst eW2)
      have s2 : ExtN H (upd (upd (upd H2 p (.tup zs)) q (.lst (us.drop S0.length))) W (.lst (us.take S0.length))) := extn_over (hs.trans (extn_same s23)) hW
      have T3 : Tabs T (upd (upd (upd H2 p (.tup zs)) q (.lst (us.drop S0.length))) W (.lst (us.take S0.length))) := tabs_lst (hT2.ext s23) eW2
      have nqW : q ≠ W := nq.symm
      have hxx : ExOk EX (upd (upd (upd H2 p (.tup zs)) q (.lst (us.drop S0.length))) W (.lst (us.take S0.length))) := fun r hr => s2 _ _ (hx r hr) (nx r hr)
      refine ⟨_, rfl, .inl ⟨rfl, _, SqL.of upd_same⟩, rfl, hxx, x, rfl, _, rfl, hxx, x, u, q, us.drop S0.length, rfl, he0.trans s2, T3, hxu.mono tk, hok u mu, by rw [upd_ne nqW, upd_same], hU2.mono tk, fun v' H6 s6 T6 hv' => ?_⟩
      have eW6 := extn_lst s6 (upd_same (H := upd (upd H2 p (.tup zs)) q (.lst (us.drop S0.length))) (a := W) (o := .lst (us.take S0.length)))
      refine ⟨W, us.take S0.length, v', rfl, rfl, eW6, by rw [List.length_take, sizeLine_eq]; omega, ?_⟩
      have tk6 : TK H2 H6 := tk.trans (extn_tk s6)
      have tk7 : TK H6 (upd H6 W (.lst (us.take S0.length ++ [v']))) := TK.upd_lst eW6
      refine ⟨_, _, _, us.take S0.length ++ [v'], S0 ++ [u], rfl, upd_same, extn_over (s2.trans s6) hW, tabs_lst T6 eW6, ?_, hN.mono (tk6.trans tk7), ?_, ?_, hR'⟩
      · rw [upd_ne nWL.symm]
        refine extn_lst s6 ?_
        rw [upd_ne nWL.symm, upd_ne npq, upd_ne npL]
        exact eL'
      · rw [List.map_append]
        exact (hU1.mono (tk6.trans tk7)).append (.cons (hv'.mono tk7) .nil)
      · rw [List.length_append, List.length_singleton]
        omega
    · rintro σ H' ⟨v4, v5, v6, us, S, rfl, eW, hs, hT2, eL', hN, hU, hSi, hR⟩
      rw [ln, ← List.length_reverse, List.drop_length] at hR
      obtain rfl := hR.end_
      cases hU with
      | @cons x _ xs _ hx hU =>
        exact ⟨_, rfl, W, _, _, _, rfl, rfl, SqL.of eW, atI_nat (j := 0) rfl, k _ _ hs hT2 hx⟩
end
end V1

namespace V1
open PySem PySem.Spec PyProof.Rows L2 NdefX LamX KT
open PySem.W (Frag)
/-! ### types as trees -/
def Ty.nds : Ty → List Ty
  | .w z => [.w z]
  | .n g a b => .n g a b :: (b.nds ++ a.nds)
def kp : D → List D
  | .t [_, a, b] => [a, b]
  | _ => []
def kn (u : D) : List D := match u.ty with
  | some t => t.nds.map Ty.d
  | none => [u]
def IsTy (u : D) : Prop := ∃ t : Ty, t.wok ∧ u = t.d
theorem kn_d {t : Ty} (h : t.wok) : kn t.d = t.nds.map Ty.d := by unfold kn; rw [t.ty_d h]
theorem treeK : Tree kp kn IsTy := by
  refine ⟨?_, ?_, ?_⟩
  · rintro u ⟨t, h, rfl⟩
    cases t with
    | w z => rw [kn_d h]; rfl
    | n g a b =>
      rw [kn_d h]
      show _ = _ :: (kn b.d ++ (kn a.d ++ []))
      rw [kn_d h.1, kn_d h.2]
      simp [Ty.nds]
  · rintro u ⟨t, h, rfl⟩
    cases t with
    | w z => exact ⟨by simp [Ty.d, kp, sizeAll, D.size], by simp [Ty.d, kp]⟩
    | n g a b => exact ⟨by simp only [Ty.d, kp, sizeAll, D.size]; omega, by simp [Ty.d, kp]⟩
  · rintro u ⟨t, h, rfl⟩ p hp
    cases t with
    | w z => simp [Ty.d, kp] at hp
    | n g a b =>
      simp only [Ty.d, kp, List.mem_cons, List.not_mem_nil, or_false] at hp
      rcases hp with rfl | rfl
      · exact ⟨a, h.1, rfl⟩
      · exact ⟨b, h.2, rfl⟩
def Ty.fold (f : Str → D) (g : Sg → D → D → D) : Ty → D
  | .w z => f z
  | .n s a b => g s (a.fold f g) (b.fold f g)
def foK (f : Str → D) (g : Sg → D → D → D) (u : D) : D := match u.ty with
  | some t => t.fold f g
  | none => u
theorem foK_d {f : Str → D} {g : Sg → D → D → D} {t : Ty} (h : t.wok) : foK f g t.d = t.fold f g := by unfold foK; rw [t.ty_d h]
/-- the tables of code objects -/
structure Tb1 (base : Heap) (mg : Str → Option Value) (T : List (Addr × Str)) (c PX : Addr) (q : Str) : Prop where
  b : TabB base mg c PX
  m : (PX, q) ∈ T
  u : ∀ p ∈ T, p.1 = PX → p.2 = q
abbrev toN (T : List (Addr × Str)) : List NTab := T.map fun p => (p.1, fun _ _ => p.2)
theorem tabsN_of {T : List (Addr × Str)} {H : Hp} (h : Tabs T H) : TabsN (toN T) H := fun q hq => by
  obtain ⟨p, hp, rfl⟩ := List.mem_map.mp hq
  exact TabN.of (h p hp)
theorem tabs_of {T : List (Addr × Str)} {H : Hp} (h : TabsN (toN T) H) : Tabs T H := fun p hp => TabN.to (h (p.1, fun _ _ => p.2) (List.mem_map.mpr ⟨p, hp, rfl⟩))
theorem Tb1.mN {base : Heap} {mg : Str → Option Value} {T : List (Addr × Str)} {c PX : Addr} {q : Str} (t : Tb1 base mg T c PX q) : (PX, fun (_ _ : Nat) => q) ∈ toN T := List.mem_map.mpr ⟨_, t.m, rfl⟩
theorem Tb1.uN {base : Heap} {mg : Str → Option Value} {T : List (Addr × Str)} {c PX : Addr} {q : Str} (t : Tb1 base mg T c PX q) : ∀ p ∈ toN T, p.1 = PX → p.2 = fun _ _ => q := by
  intro r hr e
  obtain ⟨p, hp, rfl⟩ := List.mem_map.mp hr
  show (fun _ _ => p.2) = _
  rw [t.u p hp e]
abbrev sAtPart : Stmt := (L2.defBody sFolded).getD 0 (.Pass ⟨0, 0, 0, 0⟩)
abbrev nAtPart : List Str := ["part", "came", "at_plain", "at_signed"]
theorem scAtPart : NScope nAtPart ["part", "came"] ["at_plain", "at_signed"] (C8.fnScope sAtPart) := nscope_by (by decide +kernel)
section
variable {P : Program} {w : World} {K : Frag} {mg : Str → Option Value} {base : Heap} {T : List (Addr × Str)} {cF PF : Addr}
theorem ok_partsOf {f : Addr} {fd : FuncData} (T : Top K mg "_parts_of" sPartsOf pPartsOf f fd) (B : Blt mg) : FnOk P w K mg base CX0 2 f fd pPartsOf (spPartsG kp IsTy) := by
  refine T.F.ok scPartsOf (fun vs H Q E h => ?_) (fun cdv A outer s H vs Q E hr h => ?_)
  · obtain ⟨_, _, rfl, _⟩ := h
    rfl
  · obtain ⟨v, u, rfl, hu, ⟨t, hw, rfl⟩, k⟩ := h
    refine ⟨_, pss_one (ps_ret (pe_ifExp (pt_val (pe_callB call_isi (by rfl) B.isi (by decide +kernel) (pa_cons (pv 0) (pa_cons (pe_bltn (v := .ty "tuple") (by rfl) B.tuple (by decide +kernel) rfl) pa_nil)))) (pe_slice sl_tup (pv 0) (po_some pe_int) po_none) (pe_tup pa_nil))), ?_⟩
    have hv := hu.ty (t.ty_d hw)
    cases hv with
    | @w z hz =>
      exact ⟨_, rfl, _, _, _, _, false, rfl, .ty "tuple", .base (.str z), kit_ty (by decide +kernel), false, rfl, iteF ⟨Nat.zero_le _, fun p hp => k p [] hp .nil⟩⟩
    | @n p g x y a b e h1 h2 =>
      exact ⟨_, rfl, _, _, _, _, true, rfl, .ty "tuple", .base (.tup e), kit_ty (by decide +kernel), true, rfl, iteT ⟨_, rfl, _, rfl, p, _, rfl, SqT.of e, cut_not, fun q hq => k q [x, y] hq (.cons h1.d (.cons h2.d .nil))⟩⟩
def spPl (T : List (Addr × Str)) (W : Str → Prop) (H0 : Hp) (f : Str → D) : Sp := fun vs H Q _ => ∃ z, vs = [.str z] ∧ ExtN H0 H ∧ Tabs T H ∧ W z ∧ IsW z ∧ ∀ v' H', ExtN H H' → Tabs T H' → DAt H' v' (f z) → Q v' H'
def spSg (T : List (Addr × Str)) (W2 : D → Prop) (pl : Str → D) (g : Sg → D → D → D) : Sp := fun vs H Q _ => ∃ s x y a b, vs = [.str (Sg.str s), x, y] ∧ Tabs T H ∧ W2 (Ty.n s a b).d ∧ (Ty.n s a b).wok ∧ DAt H x (a.fold pl g) ∧ DAt H y (b.fold pl g) ∧ ∀ v' H', ExtN H H' → Tabs T H' → DAt H' v' (g s (a.fold pl g) (b.fold pl g)) → Q v' H'
def OkW (W : Str → Prop) (W2 : D → Prop) (u : D) : Prop := IsTy u ∧ (∀ z, u = .s z → W z) ∧ W2 u
theorem ok_atPart {qual : Str} {cl : List (Str × Addr)} {c' f1 f2 f3 : Addr} {DD : Pins} {EX : Exts} {pl : Str → D} {sg : Sg → D → D → D} {W : Str → Prop} {W2 : D → Prop} {H0 : Hp} (C1 : Callee P w K mg base 2 f1 (spPl T W H0 pl) DD EX) (C2 : Callee P w K mg base 2 f2 (spSg T W2 pl sg) DD EX)
    (hf : (f3, FnO f3 (NF.of sAtPart "at_part" qual cl c')) ∈ EX) (hc : (c', CodeO c' qual) ∈ EX) (C : CellD DD cl ["at_plain", "at_signed"] [some (.ref f1), some (.ref f2)]) :
    Callee P w K mg base 3 f3 (spNodeG T kp (OkW W W2) H0 (foK pl sg)) DD EX := by
  refine callee_def (N := nAtPart) (ps := ["part", "came"]) (F := NF.of sAtPart "at_part" qual cl c') scAtPart (fun doc pm ctv us hl => match us, hl with | [_, _], _ => rfl) (fun vs H Q h => ?_) hf hc C (fun A outer s H vs Q hr dp hx h => ?_)
  · obtain ⟨_, _, _, _, rfl, _⟩ := h
    rfl
  · obtain ⟨x, u, L, us, rfl, he0, hT, hxu, ⟨⟨t, hw, rfl⟩, hW, hW2⟩, eL, hU, k⟩ := h
    rw [foK_d hw] at k
    refine ⟨_, pss_one (ps_ret (pe_ifExp (pt_truth (pv 1) (by intro _; rfl))
      (pe_callee (i := 3) C2 hr rfl dp rfl (.inr (.inr rfl)) (pa_cons (pe_ix ix_tup (pv 0) pe_int (fun _ _ => rfl)) (pa_cons (pe_ix ix_list (pv 1) pe_int (fun _ _ => rfl)) (pa_cons (pe_ix ix_list (pv 1) pe_int (fun _ _ => rfl)) pa_nil))))
      (pe_callee (i := 2) C1 hr rfl dp rfl (.inr (.inr rfl)) (pa_cons (pv 0) pa_nil)))), ?_⟩
    refine ⟨_, rfl, _, .inl ⟨_, SqL.of eL, rfl⟩, ?_⟩
    have hv := hxu.ty (t.ty_d hw)
    cases hv with
    | @w z hz =>
      cases hU
      exact iteF ⟨rfl, hx, _, rfl, hx, z, rfl, he0, hT, hW z rfl, hz, k⟩
    | @n p g x1 x2 a b e k1 k2 =>
      simp only [Ty.d, kp, List.map_cons, List.map_nil] at hU
      rw [foK_d hw.1, foK_d hw.2] at hU
      cases hU with
      | @cons r1 _ _ _ q1 hU =>
        cases hU with
        | @cons r2 _ _ _ q2 hU =>
          cases hU
          exact iteT ⟨rfl, hx, _, rfl, p, _, _, _, rfl, rfl, SqT.of e, atI_nat (j := 0) rfl, _, rfl, L, _, _, _, rfl, rfl, SqL.of eL, atI_nat (j := 0) rfl, _, rfl, L, _, _, _, rfl, rfl, SqL.of eL, atI_nat (j := 1) rfl, hx, g, r1, r2, a, b, rfl, hT, hW2, hw, q1, q2, k⟩
def spFolded (P : Program) (w : World) (K : Frag) (mg : Str → Option Value) (base : Heap) (T : List (Addr × Str)) (DD : Pins) : Sp := fun vs H Q _ => ∃ v t f1 f2 pl sg EX W W2 H0, vs = [v, .ref f1, .ref f2] ∧ ExtN H0 H ∧ (∀ z ∈ t.words, W z) ∧ (∀ u ∈ t.nds.map Ty.d, W2 u) ∧ TyAt H v t ∧ t.d.size ≤ 1000000 ∧
  Callee P w K mg base 2 f1 (spPl T W H0 pl) DD EX ∧ Callee P w K mg base 2 f2 (spSg T W2 pl sg) DD EX ∧ ExOk EX H ∧ (∀ p ∈ EX, ∀ ps, p.2 ≠ HO.tbl ps) ∧ Tabs T H ∧
  ∀ v' H', ExtN H H' → Tabs T H' → DAt H' v' (t.fold pl sg) → Q v' H'
theorem hAtB : ndefB (L2.defScope sFolded) (C8.fnScope sAtPart) ["at_plain", "at_signed"] = true := by decide +kernel
theorem nds_words {z : Str} : ∀ {t : Ty}, D.s z ∈ t.nds.map Ty.d → z ∈ t.words
  | .w y, h => by
    simp only [Ty.nds, List.map_cons, List.map_nil, List.mem_cons, List.not_mem_nil, or_false, Ty.d, D.s.injEq] at h
    simp [Ty.words, h]
  | .n g a b, h => by
    simp only [Ty.nds, List.map_cons, List.map_append, List.mem_cons, List.mem_append, Ty.d, reduceCtorEq, false_or] at h
    simp only [Ty.words, List.mem_append]
    exact h.symm.imp nds_words nds_words
theorem nds_wok : ∀ {t : Ty}, t.wok → ∀ u ∈ t.nds.map Ty.d, IsTy u
  | .w y, h, u, hu => by
    simp only [Ty.nds, List.map_cons, List.map_nil, List.mem_cons, List.not_mem_nil, or_false] at hu
    exact ⟨_, h, hu⟩
  | .n g a b, h, u, hu => by
    simp only [Ty.nds, List.map_cons, List.map_append, List.mem_cons, List.mem_append] at hu
    rcases hu with hu | hu | hu
    · exact ⟨_, h, hu⟩
    · exact nds_wok h.2 u hu
    · exact nds_wok h.1 u hu
theorem ok_folded {f fi fn fp cI : Addr} {fd fdi fdn fdp : FuncData} (TF : TopC K mg "folded" sFolded pFolded f fd cF) (TI : TopC K mg "from_inside" sFromInside pFromInside fi fdi cI) (TN : Top K mg "nodes_in" sNodesIn pNodesIn fn fdn)
    (TP : Top K mg "_parts_of" sPartsOf pPartsOf fp fdp) (B : Blt mg) (tb : Tb1 base mg T cF PF "folded.<locals>.at_part") : FnD P w K mg base 5 f fd pFolded (spFolded P w K mg base T) := by
  have GI : FnD P w K mg base 4 fi fdi pFromInside (spFIG P w K mg base 3 T kp kn IsTy fp) := ok_fromInsideG treeK (Nat.le_refl 3) TI TN TP (ok_partsOf TP B) B
  refine TF.fnd scFolded (fun DD vs H Q h => ?_) (fun DD A outer s H vs Q hr dp h => ?_)
  · obtain ⟨_, _, _, _, _, _, _, _, _, _, rfl, _⟩ := h
    rfl
  · obtain ⟨v, t, f1, f2, pl, sg, EX, W, W2, H0, rfl, he0, hW, hW2, ht, hz, C1, C2, hx, nx, hT, k⟩ := h
    have hw := ht.wok
    refine ⟨_, pss_cons (ps_ndefMS (st := sAtPart) (T := toN T) (nm := fun _ _ => "folded.<locals>.at_part") (i := 3) rfl tb.b rfl tb.mN (show (_ : Str) = (("folded" : Str) ++ (".<locals>." : Str)) ++ ("at_part" : Str) by decide +kernel) tb.uN (ndef_free hAtB) rfl rfl rfl scFolded.nd rfl (.inl rfl) (.inl rfl))
      (pss_one (ps_ret (pe_dcall (D0 := DD) (cl := _) (fr := ["at_plain", "at_signed"]) (js := [1, 2]) GI hr rfl (fun _ => rfl) dp (fun ok => Caps.made ok (ndef_free hAtB) (ndef_fr hAtB) rfl) rfl TI.T.g TI.T.F.kp TI.T.b
        (pa_cons (pv 0) (pa_cons (pe_glob (v := .ref fp) rfl TP.g rfl) (pa_cons (pv 3) pa_nil)))))), ?_⟩
    refine ⟨tabsN_of hT, fun f3 c' H1 eN nn T1 f0 e1 e2 => ?_⟩
    have hx1 : ExOk EX H1 := fun p hp => eN p.1 p.2 (hx p hp) (nx p hp)
    refine ⟨v, rfl, _, rfl, fun D1 CD => ?_⟩
    refine ⟨v, t.d, f3, foK pl sg, EX ++ [(f3, FnO f3 (NF.of sAtPart "at_part" (("folded" : Str) ++ (".<locals>." : Str) ++ ("at_part" : Str)) _ c')), (c', CodeO c' (("folded" : Str) ++ (".<locals>." : Str) ++ ("at_part" : Str)))], OkW W W2, H0, rfl, he0.trans eN, tabs_of T1, (ht.mono (extn_tk eN)).d, ⟨t, hw, rfl⟩, hz, ?_, ok_atPart (C1.mono (Nat.le_refl _) (fun p hp => List.mem_append.mpr (.inl hp)) fun p hp => List.mem_append.mpr (.inl hp)) (C2.mono (Nat.le_refl _) (fun p hp => List.mem_append.mpr (.inl hp)) fun p hp => List.mem_append.mpr (.inl hp))
      (List.mem_append.mpr (.inr List.mem_cons_self)) (List.mem_append.mpr (.inr (List.mem_cons_of_mem _ List.mem_cons_self))) (CD.mono fun p hp => List.mem_append.mpr (.inr hp)), ?_, ?_, fun v' H' e' T' hv' => k v' H' (eN.trans e') T' (by rw [foK_d hw] at hv'; exact hv')⟩
    · intro u hu
      rw [kn_d hw] at hu
      exact ⟨nds_wok hw u hu, fun z e => hW z (nds_words (e ▸ hu)), hW2 u hu⟩
    · intro p hp
      rcases List.mem_append.mp hp with hp | hp
      · exact hx1 p hp
      · rcases List.mem_cons.mp hp with rfl | hp
        · exact e1
        · rcases List.mem_cons.mp hp with rfl | hp
          · exact e2
          · exact absurd hp (by simp)
    · intro p hp ps
      rcases List.mem_append.mp hp with hp | hp
      · exact nx p hp ps
      · rcases List.mem_cons.mp hp with rfl | hp
        · exact fun z => by
            unfold FnO at z
            cases z
        · rcases List.mem_cons.mp hp with rfl | hp
          · exact codeO_ne ps
          · exact absurd hp (by simp)
end
end V1

namespace V1
open PySem PySem.Spec PyProof.Rows L2 KT
open PySem.W (Frag)
mutual
theorem D.ty_wok : ∀ {d : D} {t : Ty}, d.ty = some t → t.wok
  | .s z, t, h => by
    simp only [D.ty] at h
    split at h
    · rename_i q
      cases h
      exact isWB_ok q
    · cases h
  | .i _, t, h => by simp only [D.ty] at h; cases h
  | .o, t, h => by simp only [D.ty] at h; cases h
  | .t l, t, h => by
    simp only [D.ty] at h
    obtain ⟨g, x, y, a, b, rfl, ⟨o, hr⟩, rfl⟩ := mkTy_inv h
    simp only [tyAll] at hr
    injection hr with _ hr
    injection hr with e1 hr
    injection hr with e2 _
    have q := tyAll_wok [.s (Sg.str g), x, y]
    exact ⟨q 1 _ _ rfl e1, q 2 _ _ rfl e2⟩
theorem tyAll_wok : ∀ (ds : List D) (j : Nat) (d : D) (t : Ty), ds[j]? = some d → d.ty = some t → t.wok
  | [], j, d, t, h, e => by simp at h
  | x :: ds, 0, d, t, h, e => by
    obtain rfl := Option.some.inj (show some _ = some _ from h)
    exact D.ty_wok e
  | x :: ds, j + 1, d, t, h, e => tyAll_wok ds j d t (by simpa using h) e
end
mutual
/-- a datum that is a type is that type's -/
theorem D.ty_d : ∀ {d : D} {t : Ty}, d.ty = some t → t.d = d
  | .s z, t, h => by
    simp only [D.ty] at h
    split at h
    · cases h; rfl
    · cases h
  | .i _, t, h => by simp only [D.ty] at h; cases h
  | .o, t, h => by simp only [D.ty] at h; cases h
  | .t l, t, h => by
    simp only [D.ty] at h
    obtain ⟨g, x, y, a, b, rfl, ⟨o, hr⟩, rfl⟩ := mkTy_inv h
    simp only [tyAll] at hr
    injection hr with _ hr
    injection hr with e1 hr
    injection hr with e2 _
    have q := tyAll_d [D.s g.str, x, y]
    have q1 := q 1 x a rfl e1
    have q2 := q 2 y b rfl e2
    simp only [Ty.d, q1, q2]
theorem tyAll_d : ∀ (ds : List D) (j : Nat) (d : D) (t : Ty), ds[j]? = some d → d.ty = some t → t.d = d
  | [], j, d, t, e, _ => by simp at e
  | a :: r, 0, d, t, e1, e2 => by
    obtain rfl := Option.some.inj (show some a = some d from e1)
    exact D.ty_d e2
  | a :: r, j + 1, d, t, e1, e2 => tyAll_d r j d t (by simpa using e1) e2
end
/-! ### texts: split, put in, read -/
theorem cps_app (x y : Str) : (x ++ y).cps.toList = x.cps.toList ++ y.cps.toList := TL.tl_append x y
theorem str_ext {x y : Str} (h : x.cps.toList = y.cps.toList) : x = y := by
  apply Str.ext'
  exact Array.toList_inj.mp h
theorem app_assoc (x y z : Str) : x ++ y ++ z = x ++ (y ++ z) := str_ext (by simp only [cps_app, List.append_assoc])
/-- the sign c as a text -/
def ch (c : Nat) : Str := ⟨#[c]⟩
theorem ch_l (c : Nat) : (ch c).cps.toList = [c] := rfl
def jn (y : List Nat) : List (List Nat) → List Nat
  | [] => []
  | [a] => a
  | a :: b :: r => a ++ y ++ jn y (b :: r)
theorem jn_is (y : Str) : ∀ l : List Str, (Str.join y l).cps.toList = jn y.cps.toList (l.map (·.cps.toList))
  | [] => rfl
  | [a] => rfl
  | a :: b :: r => by
    show (a ++ y ++ Str.join y (b :: r)).cps.toList = _
    rw [cps_app, cps_app, jn_is y (b :: r)]
    rfl
theorem jn_app (y : List Nat) : ∀ (l m : List (List Nat)), l ≠ [] → m ≠ [] → jn y (l ++ m) = jn y l ++ y ++ jn y m
  | [], _, h, _ => absurd rfl h
  | [a], [], _, h => absurd rfl h
  | [a], b :: r, _, _ => rfl
  | a :: b :: r, m, _, hm => by
    have ih := jn_app y (b :: r) m (by simp) hm
    show a ++ y ++ jn y (b :: r ++ m) = a ++ y ++ jn y (b :: r) ++ y ++ jn y m
    rw [ih]
    simp only [List.append_assoc]
/-- lists without the sign, put together with it, are told by what comes of them -/
theorem jn_inj (c : Nat) : ∀ (l m : List (List Nat)), (∀ a ∈ l, c ∉ a) → (∀ a ∈ m, c ∉ a) → l ≠ [] → m ≠ [] → jn [c] l = jn [c] m → l = m := by
  have cut : ∀ (a a' r r' : List Nat), c ∉ a → c ∉ a' → a ++ c :: r = a' ++ c :: r' → a = a' ∧ r = r' := by
    intro a
    induction a with
    | nil =>
      intro a' r r' _ h e
      cases a' with
      | nil => exact ⟨rfl, by simpa using e⟩
      | cons x a' => simp only [List.nil_append, List.cons_append, List.cons.injEq] at e; exact absurd (e.1 ▸ List.mem_cons_self) h
    | cons x a ih =>
      intro a' r r' h h' e
      cases a' with
      | nil => simp only [List.nil_append, List.cons_append, List.cons.injEq] at e; exact absurd (e.1 ▸ List.mem_cons_self) h
      | cons y a' =>
        simp only [List.cons_append, List.cons.injEq] at e
        obtain ⟨rfl, e⟩ := e
        obtain ⟨q1, q2⟩ := ih a' r r' (fun z => h (List.mem_cons_of_mem _ z)) (fun z => h' (List.mem_cons_of_mem _ z)) e
        exact ⟨by rw [q1], q2⟩
  intro l
  induction l with
  | nil => intro m _ _ h; exact absurd rfl h
  | cons a l ih =>
    intro m hl hm _ hn e
    cases m with
    | nil => exact absurd rfl hn
    | cons b m =>
      have ha := hl a List.mem_cons_self
      have hb := hm b List.mem_cons_self
      cases l with
      | nil =>
        cases m with
        | nil => exact congrArg (· :: []) e
        | cons b2 m =>
          have e : a = b ++ [c] ++ jn [c] (b2 :: m) := e
          exact absurd (by rw [e]; simp) ha
      | cons a2 l =>
        cases m with
        | nil =>
          have e : a ++ [c] ++ jn [c] (a2 :: l) = b := e
          exact absurd (by rw [← e]; simp) hb
        | cons b2 m =>
          have e : a ++ [c] ++ jn [c] (a2 :: l) = b ++ [c] ++ jn [c] (b2 :: m) := e
          simp only [List.append_assoc, List.singleton_append] at e
          obtain ⟨rfl, e2⟩ := cut _ _ _ _ ha hb e
          rw [ih (b2 :: m) (fun x hx => hl x (List.mem_cons_of_mem _ hx)) (fun x hx => hm x (List.mem_cons_of_mem _ hx)) (by simp) (by simp) e2]
theorem split_ne (x : Str) (y : Str) : Txt.split x y ≠ [] := fun z => by
  have := split_pos x y
  rw [z] at this
  simp at this
/-- what is put together of texts without the sign is split into them -/
theorem split_is {x : Str} {c : Nat} {l : List Str} (h : x.cps.toList = jn [c] (l.map (·.cps.toList))) (hl : ∀ a ∈ l, c ∉ a.cps.toList) (hn : l ≠ []) : Txt.split x (ch c) = l := by
  have e := StrLaws.join_split x (ch c)
  have q := jn_is (ch c) (Txt.split x (ch c))
  rw [e, h, ch_l] at q
  have inj : ((Txt.split x (ch c)).map (·.cps.toList)) = l.map (·.cps.toList) := by
    refine (jn_inj c _ _ (fun a ha => ?_) (fun a ha => ?_) (by simpa using hn) (by simpa using split_ne x (ch c)) q).symm
    · obtain ⟨z, hz, rfl⟩ := List.mem_map.mp ha
      exact hl z hz
    · obtain ⟨z, hz, rfl⟩ := List.mem_map.mp ha
      exact StrLaws.split_free x c z hz
  refine List.map_inj_right (fun a b h => str_ext h) |>.mp inj
theorem split_app (c : Nat) (a b : Str) : Txt.split (a ++ ch c ++ b) (ch c) = Txt.split a (ch c) ++ Txt.split b (ch c) := by
  refine split_is ?_ (fun z hz => ?_) (by simp [split_ne])
  · rw [List.map_append, jn_app _ _ _ (by simpa using split_ne a (ch c)) (by simpa using split_ne b (ch c)), ← ch_l, ← jn_is, ← jn_is, StrLaws.join_split, StrLaws.join_split, cps_app, cps_app]
  · rcases List.mem_append.mp hz with h | h
    · exact StrLaws.split_free a c z h
    · exact StrLaws.split_free b c z h
theorem split_one {c : Nat} {a : Str} (h : c ∉ a.cps.toList) : Txt.split a (ch c) = [a] := split_is rfl (fun z hz => by rw [List.mem_singleton.mp hz]; exact h) (by simp)
/-- another text put for the sign -/
def sub (c : Nat) (z : List Nat) (l : List Nat) : List Nat := l.flatMap fun d => if d = c then z else [d]
theorem sub_app (c : Nat) (z l m : List Nat) : sub c z (l ++ m) = sub c z l ++ sub c z m := by simp [sub]
theorem sub_none {c : Nat} {z l : List Nat} (h : c ∉ l) : sub c z l = l := by
  unfold sub
  induction l with
  | nil => rfl
  | cons d l ih =>
    rw [List.flatMap_cons, if_neg fun e => h (by rw [e]; exact List.mem_cons_self), ih fun m => h (List.mem_cons_of_mem _ m)]
    rfl
theorem sub_jn (c : Nat) (z : List Nat) : ∀ l : List (List Nat), (∀ a ∈ l, c ∉ a) → sub c z (jn [c] l) = jn z l
  | [], _ => rfl
  | [a], h => sub_none (h a List.mem_cons_self)
  | a :: b :: r, h => by
    have ih := sub_jn c z (b :: r) fun x hx => h x (List.mem_cons_of_mem _ hx)
    show sub c z (a ++ [c] ++ jn [c] (b :: r)) = a ++ z ++ jn z (b :: r)
    rw [sub_app, sub_app, ih, sub_none (h a List.mem_cons_self)]
    simp [sub]
theorem replace_is (x z : Str) (c : Nat) (hc : c < 128) : (Txt.replace x (ch c) z).cps.toList = sub c z.cps.toList x.cps.toList := by
  have free : ∀ a ∈ (Txt.split x (ch c)).map (·.cps.toList), c ∉ a := fun a ha => by
    obtain ⟨y, hy, rfl⟩ := List.mem_map.mp ha
    exact StrLaws.split_free x c y hy
  have q := sub_jn c z.cps.toList _ free
  rw [← ch_l, ← jn_is, StrLaws.join_split, ← jn_is] at q
  have q : sub c z.cps.toList x.cps.toList = (Str.join z (Txt.split x (ch c))).cps.toList := q
  rw [q]
  unfold Txt.replace Txt.split
  have l1 : (ch c).length = 1 := rfl
  cases ho : (Builtin.Str.occurrences x (ch c) 0 x.length (x.length + 1)).isEmpty with
  | true =>
    rw [Bool.true_or, if_pos rfl]
    split
    · rfl
    · rw [if_pos rfl]; rfl
  | false =>
    have n1 : (decide (x.length < (ch c).length) || decide (Builtin.Str.strKind x < Builtin.Str.strKind (ch c))) = false := by
      have k1 : Builtin.Str.strKind (ch c) = 1 := by
        unfold Builtin.Str.strKind
        have h1 : (ch c).cps.all (· < 256) = true := by simp [ch]; omega
        rw [h1]
        rfl
      have k2 : 1 ≤ Builtin.Str.strKind x := by
        unfold Builtin.Str.strKind
        split
        · exact Nat.le_refl 1
        · split <;> omega
      rw [k1, l1]
      have hx : 1 ≤ x.length := by
        cases hl : Builtin.Str.occurrences x (ch c) 0 x.length (x.length + 1) with
        | nil => rw [hl] at ho; cases ho
        | cons i r =>
          have := (StrLaws.occ_spec x (ch c) 0 x.length (x.length + 1) i (by rw [hl]; exact List.mem_cons_self)).1
          rw [l1] at this
          omega
      rw [decide_eq_false (by omega), decide_eq_false (by omega)]
      rfl
    rw [n1, l1, if_neg (by simp), if_neg (by simp), if_neg (by simp)]
    rw [StrLaws.glued_eq_join]
/-! ### the texts of types -/
def Ty.text : Ty → Str
  | .w z => z
  | .n g a b => ch 40 ++ a.text ++ ch 32 ++ g.str ++ ch 32 ++ b.text ++ ch 41
/-- what is made of a text ahead of the split -/
def wide (l : List Nat) : List Nat := sub 41 [32, 41] (sub 40 [40, 32] l)
theorem wide_app (l m : List Nat) : wide (l ++ m) = wide l ++ wide m := by unfold wide; rw [sub_app, sub_app]
def wideS (x : Str) : Str := Txt.replace (Txt.replace x (ch 40) ⟨#[40, 32]⟩) (ch 41) ⟨#[32, 41]⟩
theorem wideS_l (x : Str) : (wideS x).cps.toList = wide x.cps.toList := by
  unfold wideS wide
  rw [replace_is _ _ _ (by decide), replace_is _ _ _ (by decide)]
def toks : Ty → List Str
  | .w z => [z]
  | .n g a b => ch 40 :: (toks a ++ g.str :: (toks b ++ [ch 41]))
theorem toks_ne (t : Ty) : toks t ≠ [] := by cases t <;> simp [toks]
theorem isW_no {z : Str} (h : IsW z) {c : Nat} (hc : c < 97) : c ∉ z.cps.toList := fun m => by
  have := (h.2.2 c m).1
  omega
theorem sg_no (g : Sg) {c : Nat} (hc : c < 97) : c ∉ g.str.cps.toList := fun m => by
  have q : ∀ d ∈ g.str.cps.toList, 97 ≤ d := by cases g <;> decide +kernel
  have := q c m
  omega
theorem wide_none {l : List Nat} (h : ∀ c ∈ l, 97 ≤ c) : wide l = l := by
  unfold wide
  have h1 : (40 : Nat) ∉ l := fun m => by have := h 40 m; omega
  have h2 : (41 : Nat) ∉ l := fun m => by have := h 41 m; omega
  rw [sub_none h1, sub_none h2]
theorem sg_hi (g : Sg) : ∀ c ∈ g.str.cps.toList, 97 ≤ c := by cases g <;> decide +kernel
theorem isW_hi {z : Str} (h : IsW z) : ∀ c ∈ z.cps.toList, 97 ≤ c := fun c m => (h.2.2 c m).1
theorem split_wide : ∀ (t : Ty), t.wok → ∀ x : Str, x.cps.toList = wide t.text.cps.toList → Txt.split x (ch 32) = toks t
  | .w z, h, x, e => by
    have e : x.cps.toList = wide z.cps.toList := e
    rw [wide_none (isW_hi h)] at e
    obtain rfl := str_ext e
    exact split_one (isW_no h (by decide))
  | .n g a b, h, x, e => by
    have i := split_wide a h.1 ⟨(wide a.text.cps.toList).toArray⟩ (by simp)
    have j := split_wide b h.2 ⟨(wide b.text.cps.toList).toArray⟩ (by simp)
    have w1 : wide [40] = [40, 32] := by decide
    have w2 : wide [32] = [32] := by decide
    have w3 : wide [41] = [32, 41] := by decide
    have ex : x = ch 40 ++ ch 32 ++ (⟨(wide a.text.cps.toList).toArray⟩ ++ ch 32 ++ (g.str ++ ch 32 ++ (⟨(wide b.text.cps.toList).toArray⟩ ++ ch 32 ++ ch 41))) := by
      apply str_ext
      rw [e]
      simp only [Ty.text, cps_app, ch_l, wide_app, w1, w2, w3, wide_none (sg_hi g)]
      simp only [List.append_assoc, List.cons_append, List.nil_append]
    rw [ex, split_app, split_app, split_app, split_app, i, j, split_one (a := ch 40) (by simp [ch]), split_one (sg_no g (by decide)), split_one (a := ch 41) (by simp [ch])]
    simp [toks]
/-! ### the program's reading of parts -/
def rd1 (o : Option (List D)) (p : Str) : Option (List D) :=
  match o with
  | none => none
  | some st => if p = ch 41 then (match st.reverse with
      | b :: g :: a :: _ :: r => some (r.reverse ++ [.t [g, a, b]])
      | _ => none) else some (st ++ [.s p])
def rdAll (ps : List Str) (st : List D) : Option (List D) := ps.foldl rd1 (some st)
theorem rd_app (ps qs : List Str) (o : Option (List D)) : (ps ++ qs).foldl rd1 o = qs.foldl rd1 (ps.foldl rd1 o) := List.foldl_append
theorem ne_close {z : Str} (h : ∀ c ∈ z.cps.toList, 97 ≤ c) : ¬ z = ch 41 := fun e => by
  have := h 41 (by rw [e]; simp [ch])
  omega
theorem rd_toks : ∀ (t : Ty), t.wok → ∀ st : List D, (toks t).foldl rd1 (some st) = some (st ++ [t.d])
  | .w z, h, st => by
    show rd1 (some st) z = _
    simp only [rd1]
    rw [if_neg (ne_close (isW_hi h))]
    rfl
  | .n g a b, h, st => by
    show (ch 40 :: (toks a ++ g.str :: (toks b ++ [ch 41]))).foldl rd1 (some st) = _
    rw [List.foldl_cons, rd_app]
    have e0 : rd1 (some st) (ch 40) = some (st ++ [.s (ch 40)]) := by
      simp only [rd1]
      rw [if_neg (by decide)]
    rw [e0, rd_toks a h.1, List.foldl_cons]
    have e1 : rd1 (some (st ++ [.s (ch 40)] ++ [a.d])) g.str = some (st ++ [.s (ch 40)] ++ [a.d] ++ [.s g.str]) := by
      simp only [rd1]
      rw [if_neg (ne_close (sg_hi g))]
    rw [e1, rd_app, rd_toks b h.2]
    show rd1 (some _) (ch 41) = _
    simp only [rd1, if_pos]
    simp [Ty.d]
def rdD (x : Str) : D := match rdAll (Txt.split (wideS x) (ch 32)) [] with
  | some [d] => d
  | _ => .o
theorem rdD_text (t : Ty) (h : t.wok) : rdD t.text = t.d := by
  unfold rdD rdAll
  rw [split_wide t h _ (wideS_l t.text), rd_toks t h]
  rfl
theorem text_inj {t u : Ty} (h : t.wok) (h' : u.wok) (e : t.text = u.text) : t = u := by
  have q : t.d = u.d := by rw [← rdD_text t h, ← rdD_text u h', e]
  have q2 : t.d.ty = u.d.ty := by rw [q]
  rw [t.ty_d h, u.ty_d h'] at q2
  exact Option.some.inj q2
/-- what is told of a text: the type whose text it is, or nothing -/
def ofText (x : Str) : D := match (rdD x).ty with
  | some t => if t.text = x then rdD x else .o
  | none => .o
theorem ofText_text (t : Ty) (h : t.wok) : ofText t.text = t.d := by
  unfold ofText
  rw [rdD_text t h, t.ty_d h]
  show (if t.text = t.text then t.d else .o) = _
  rw [if_pos rfl]
theorem ofText_no {x : Str} (h : ∀ t : Ty, t.wok → t.text ≠ x) : ofText x = .o := by
  unfold ofText
  cases e : (rdD x).ty with
  | none => rfl
  | some t =>
    show (if t.text = x then rdD x else .o) = _
    rw [if_neg (h t (D.ty_wok e))]
theorem ofText_cases (x : Str) : (∃ t : Ty, t.wok ∧ t.text = x ∧ ofText x = t.d) ∨ ((∀ t : Ty, t.wok → t.text ≠ x) ∧ ofText x = .o) := by
  by_cases h : ∃ t : Ty, t.wok ∧ t.text = x
  · obtain ⟨t, h1, h2⟩ := h
    exact .inl ⟨t, h1, h2, by rw [← h2, ofText_text t h1]⟩
  · have h' : ∀ t : Ty, t.wok → t.text ≠ x := fun t h1 h2 => h ⟨t, h1, h2⟩
    exact .inr ⟨h', ofText_no h'⟩
end V1

namespace V1
open PySem PySem.Spec PyProof.Rows L2 KT
open PySem.W (Frag)
/-! ### the law's reading of a text -/
def low (c : Nat) : Bool := decide (97 ≤ c) && decide (c ≤ 122)
def headLow (p : Str) : Bool := match p.cps.toList with
  | c :: _ => low c
  | [] => false
def lastLow (l : List Str) : Bool := match l.getLast? with
  | some p => headLow p
  | none => false
def pc1 (l : List Str) (c : Nat) : List Str := if low c = true ∧ lastLow l = true then l.dropLast ++ [l.getLastD (ch 0) ++ ch c] else l ++ [ch c]
def pieces (x : Str) : List Str := x.cps.toList.foldl pc1 []
def cat (l : List Str) : List Nat := l.flatMap (·.cps.toList)
theorem cat_app (l m : List Str) : cat (l ++ m) = cat l ++ cat m := by simp [cat]
theorem lastLow_ne {l : List Str} (h : lastLow l = true) : l ≠ [] := fun z => by rw [z] at h; cases h
theorem pc1_cat (l : List Str) (c : Nat) : cat (pc1 l c) = cat l ++ [c] := by
  unfold pc1
  split
  · rename_i h
    have hn := lastLow_ne h.2
    have e := List.dropLast_concat_getLast hn
    have e2 : l.getLastD (ch 0) = l.getLast hn := by rw [List.getLastD_eq_getLast?, List.getLast?_eq_some_getLast hn]; rfl
    rw [cat_app, e2]
    conv => rhs; rw [← e, cat_app]
    simp [cat, cps_app, ch_l]
  · rw [cat_app]
    simp [cat, ch_l]
theorem pieces_cat (x : Str) : cat (pieces x) = x.cps.toList := by
  have key : ∀ (cs : List Nat) (l : List Str), cat (cs.foldl pc1 l) = cat l ++ cs := by
    intro cs
    induction cs with
    | nil => intro l; simp
    | cons c cs ih => intro l; rw [List.foldl_cons, ih, pc1_cat]; simp
  show cat (x.cps.toList.foldl pc1 []) = _
  rw [key]
  rfl
def pcs : Ty → List Str
  | .w z => [z]
  | .n g a b => ch 40 :: (pcs a ++ ch 32 :: g.str :: ch 32 :: (pcs b ++ [ch 41]))
theorem lastLow_snoc (l : List Str) (p : Str) : lastLow (l ++ [p]) = headLow p := by simp [lastLow]
theorem pc_word (w : List Nat) (hw : ∀ c ∈ w, 97 ≤ c ∧ c ≤ 122) : ∀ (l : List Str) (p : Str), headLow p = true → w.foldl pc1 (l ++ [p]) = l ++ [⟨(p.cps.toList ++ w).toArray⟩] := by
  induction w with
  | nil =>
    intro l p _
    have e : p = ⟨(p.cps.toList ++ []).toArray⟩ := str_ext (by simp)
    rw [← e]; rfl
  | cons c w ih =>
    intro l p hp
    rw [List.foldl_cons]
    have hc := hw c List.mem_cons_self
    have lc : low c = true := by unfold low; rw [decide_eq_true hc.1, decide_eq_true hc.2]; rfl
    have e1 : pc1 (l ++ [p]) c = l ++ [p ++ ch c] := by
      unfold pc1
      rw [if_pos ⟨lc, by rw [lastLow_snoc]; exact hp⟩]
      simp
    have hp' : headLow (p ++ ch c) = true := by
      unfold headLow at hp ⊢
      rw [cps_app]
      cases e : p.cps.toList with
      | nil => rw [e] at hp; cases hp
      | cons d r => rw [e] at hp; exact hp
    rw [e1, ih (fun d hd => hw d (List.mem_cons_of_mem _ hd)) l (p ++ ch c) hp', cps_app, ch_l]
    simp
theorem pc_text_word {w : Str} (h1 : 1 ≤ w.length) (hw : ∀ c ∈ w.cps.toList, 97 ≤ c ∧ c ≤ 122) (l : List Str) (hl : lastLow l = false) : w.cps.toList.foldl pc1 l = l ++ [w] := by
  cases e : w.cps.toList with
  | nil =>
    have : w.cps.toList.length = w.length := by simp [Str.length]
    rw [e] at this
    simp at this
    omega
  | cons c r =>
    rw [e] at hw
    have hc := hw c List.mem_cons_self
    rw [List.foldl_cons]
    have e1 : pc1 l c = l ++ [ch c] := by
      unfold pc1
      rw [if_neg fun z => by rw [hl] at z; cases z.2]
    have hp : headLow (ch c) = true := by
      show low c = true
      unfold low
      rw [decide_eq_true hc.1, decide_eq_true hc.2]
      rfl
    rw [e1, pc_word r (fun d hd => hw d (List.mem_cons_of_mem _ hd)) l (ch c) hp]
    congr 2
    exact str_ext (by simp [ch_l, e])
theorem pc_sign (l : List Str) {c : Nat} (h : low c = false) : pc1 l c = l ++ [ch c] := by
  unfold pc1
  rw [if_neg fun z => by rw [h] at z; cases z.1]
theorem sg_low (g : Sg) : 1 ≤ g.str.length ∧ ∀ c ∈ g.str.cps.toList, 97 ≤ c ∧ c ≤ 122 := by cases g <;> exact ⟨by decide +kernel, by decide +kernel⟩
theorem pc_text : ∀ (t : Ty), t.wok → ∀ l : List Str, lastLow l = false → t.text.cps.toList.foldl pc1 l = l ++ pcs t
  | .w z, h, l, hl => pc_text_word h.1 h.2.2 l hl
  | .n g a b, h, l, hl => by
    have nl : ∀ (l : List Str) {c : Nat}, low c = false → lastLow (l ++ [ch c]) = false := fun l c hc => by rw [lastLow_snoc]; exact hc
    have c40 : low 40 = false := by decide
    have c32 : low 32 = false := by decide
    have c41 : low 41 = false := by decide
    simp only [Ty.text, cps_app, ch_l, List.foldl_append, List.foldl_cons, List.foldl_nil]
    rw [pc_sign l c40, pc_text a h.1 _ (nl l c40), pc_sign (l ++ [ch 40] ++ pcs a) c32, pc_text_word (sg_low g).1 (sg_low g).2 _ (nl _ c32), pc_sign (l ++ [ch 40] ++ pcs a ++ [ch 32] ++ [g.str]) c32, pc_text b h.2 _ (nl _ c32), pc_sign _ c41]
    simp [pcs]
theorem pieces_text (t : Ty) (h : t.wok) : pieces t.text = pcs t := by
  show t.text.cps.toList.foldl pc1 [] = _
  rw [pc_text t h [] rfl]
  rfl
def D.isS (z : Str) : D → Bool
  | .s y => decide (y = z)
  | _ => false
def D.isSgn : D → Bool
  | .s y => (sgOf y).isSome
  | _ => false
def D.okp (d : D) : Bool := d.isTup || d.isKd
def shut (st : List D) : Option (List D) := match st.reverse with
  | _ :: x5 :: x4 :: x3 :: x2 :: x1 :: x0 :: r => if (x0.isS (ch 40) && x2.isS (ch 32) && x4.isS (ch 32) && x3.isSgn && x1.okp && x5.okp) = true then some (r.reverse ++ [.t [x3, x1, x5]]) else none
  | _ => none
def lp1 (o : Option (List D)) (p : Str) : Option (List D) := match o with
  | none => none
  | some st => if p = ch 41 then shut (st ++ [.s p]) else some (st ++ [.s p])
def lawD (x : Str) : D := match (pieces x).foldl lp1 (some []) with
  | some [d] => if d.isKd = true then d else .o
  | _ => .o
theorem isS_of {d : D} {z : Str} (h : d.isS z = true) : d = .s z := by
  cases d with
  | s y => exact congrArg D.s (of_decide_eq_true h)
  | i n => cases h
  | o => cases h
  | t l => cases h
theorem okp_d (t : Ty) (h : t.wok) : t.d.okp = true := by
  unfold D.okp D.isKd
  rw [t.ty_d h]
  simp
theorem lp_pcs : ∀ (t : Ty), t.wok → ∀ st : List D, (pcs t).foldl lp1 (some st) = some (st ++ [t.d])
  | .w z, h, st => by
    show lp1 (some st) z = _
    simp only [lp1]
    rw [if_neg (ne_close (isW_hi h))]
    rfl
  | .n g a b, h, st => by
    have push : ∀ (st : List D) (p : Str), ¬ p = ch 41 → lp1 (some st) p = some (st ++ [.s p]) := fun st p hp => by
      simp only [lp1]
      rw [if_neg hp]
    simp only [pcs, List.foldl_cons, List.foldl_append, List.foldl_nil]
    rw [push _ _ (by decide), lp_pcs a h.1, push _ _ (by decide), push _ _ (ne_close (sg_hi g)), push _ _ (by decide), lp_pcs b h.2]
    show lp1 (some _) (ch 41) = _
    simp only [lp1, if_pos]
    unfold shut
    have o1 := okp_d a h.1
    have o2 := okp_d b h.2
    have o3 : (D.s g.str).isSgn = true := by show (sgOf g.str).isSome = true; rw [sgOf_str]; rfl
    have s1 : (D.s (ch 40)).isS (ch 40) = true := by simp [D.isS]
    have s2 : (D.s (ch 32)).isS (ch 32) = true := by simp [D.isS]
    simp [o1, o2, o3, s1, s2, Ty.d]
/-- how it reads -/
def rn : D → List Nat
  | .s z => z.cps.toList
  | d => match d.ty with
    | some t => t.text.cps.toList
    | none => []
theorem rn_s (z : Str) : rn (.s z) = z.cps.toList := rfl
theorem rn_d (t : Ty) (h : t.wok) : rn t.d = t.text.cps.toList := by
  cases t with
  | w z => rfl
  | n g a b =>
    have e := Ty.ty_d (.n g a b) h
    show (match (Ty.n g a b).d.ty with | some t => t.text.cps.toList | none => []) = _
    rw [e]
def Gd (d : D) : Prop := (∃ z, d = .s z) ∨ ∃ t : Ty, t.wok ∧ d = t.d
theorem okp_ty {d : D} (h : Gd d) (o : d.okp = true) : ∃ t : Ty, t.wok ∧ d = t.d := by
  rcases h with ⟨z, rfl⟩ | h
  · have o : (D.s z).isKd = true := by simpa [D.okp, D.isTup] using o
    obtain ⟨t, ht⟩ := Option.isSome_iff_exists.mp o
    exact ⟨t, D.ty_wok ht, (D.ty_d ht).symm⟩
  · exact h
theorem sgn_of {d : D} (h : d.isSgn = true) : ∃ g : Sg, d = .s g.str := by
  cases d with
  | s y =>
    obtain ⟨g, hg⟩ := Option.isSome_iff_exists.mp (show (sgOf y).isSome = true from h)
    exact ⟨g, by rw [sgOf_some hg]⟩
  | i n => cases h
  | o => cases h
  | t l => cases h
theorem shut_ok {st st' : List D} (h : shut st = some st') (hg : ∀ d ∈ st, Gd d) (hl : st.getLast? = some (.s (ch 41))) : (∀ d ∈ st', Gd d) ∧ st'.flatMap rn = st.flatMap rn := by
  unfold shut at h
  split at h
  · rename_i x6 x5 x4 x3 x2 x1 x0 r e
    split at h
    · rename_i c
      simp only [Bool.and_eq_true] at c
      obtain ⟨⟨⟨⟨⟨c0, c2⟩, c4⟩, c3⟩, c1⟩, c5⟩ := c
      have e2 : st = r.reverse ++ [x0, x1, x2, x3, x4, x5, x6] := by
        have := congrArg List.reverse e
        rw [List.reverse_reverse] at this
        rw [this]
        simp
      have mem : ∀ d ∈ [x0, x1, x2, x3, x4, x5, x6], Gd d := fun d hd => hg d (by rw [e2]; exact List.mem_append.mpr (.inr hd))
      obtain ⟨t1, w1, rfl⟩ := okp_ty (mem x1 (by simp)) c1
      obtain ⟨t5, w5, rfl⟩ := okp_ty (mem x5 (by simp)) c5
      obtain ⟨g, rfl⟩ := sgn_of c3
      obtain rfl := isS_of c0
      obtain rfl := isS_of c2
      obtain rfl := isS_of c4
      have e6 : x6 = .s (ch 41) := by rw [e2] at hl; simpa using hl
      subst e6
      obtain rfl := Option.some.inj h
      have wn : (Ty.n g t1 t5).wok := ⟨w1, w5⟩
      refine ⟨fun d hd => ?_, ?_⟩
      · rcases List.mem_append.mp hd with hd | hd
        · exact hg d (by rw [e2]; exact List.mem_append.mpr (.inl hd))
        · exact .inr ⟨.n g t1 t5, wn, List.mem_singleton.mp hd⟩
      · have q := rn_d (.n g t1 t5) wn
        rw [e2, List.flatMap_append, List.flatMap_append]
        congr 1
        show rn (Ty.n g t1 t5).d ++ [] = _
        rw [q]
        simp only [List.flatMap_cons, List.flatMap_nil, rn_d t1 w1, rn_d t5 w5, Ty.text, cps_app, ch_l, rn_s, List.append_assoc, List.append_nil, List.cons_append, List.nil_append]
    · cases h
  · cases h
theorem lp_ok : ∀ (ps : List Str) (st st' : List D), ps.foldl lp1 (some st) = some st' → (∀ d ∈ st, Gd d) → (∀ d ∈ st', Gd d) ∧ st'.flatMap rn = st.flatMap rn ++ cat ps := by
  intro ps
  induction ps with
  | nil => intro st st' h hg; obtain rfl := Option.some.inj h; exact ⟨hg, by simp [cat]⟩
  | cons p ps ih =>
    intro st st' h hg
    rw [List.foldl_cons] at h
    have none_ : ∀ ps : List Str, ps.foldl lp1 none = none := by
      intro ps
      induction ps with
      | nil => rfl
      | cons q ps i => exact i
    cases e : lp1 (some st) p with
    | none => rw [e, none_] at h; cases h
    | some s1 =>
      rw [e] at h
      have hgp : ∀ d ∈ st ++ [.s p], Gd d := fun d hd => by
        rcases List.mem_append.mp hd with hd | hd
        · exact hg d hd
        · exact .inl ⟨p, List.mem_singleton.mp hd⟩
      have q : (∀ d ∈ s1, Gd d) ∧ s1.flatMap rn = st.flatMap rn ++ p.cps.toList := by
        simp only [lp1] at e
        split at e
        · rename_i c
          obtain ⟨a1, a2⟩ := shut_ok e hgp (by rw [c]; simp)
          exact ⟨a1, by rw [a2, List.flatMap_append]; simp [rn]⟩
        · obtain rfl := Option.some.inj e
          exact ⟨hgp, by rw [List.flatMap_append]; simp [rn]⟩
      obtain ⟨a1, a2⟩ := ih s1 st' h q.1
      exact ⟨a1, by rw [a2, q.2]; simp [cat]⟩
/-- the law's reading is the program's -/
theorem lawD_is (x : Str) : lawD x = ofText x := by
  rcases ofText_cases x with ⟨t, h1, rfl, e⟩ | ⟨hno, e⟩
  · rw [e]
    unfold lawD
    rw [pieces_text t h1, lp_pcs t h1]
    show (if t.d.isKd = true then t.d else .o) = _
    rw [if_pos (by unfold D.isKd; rw [t.ty_d h1]; rfl)]
  · rw [e]
    unfold lawD
    split
    · rename_i d hd
      split
      · rename_i k
        obtain ⟨g1, g2⟩ := lp_ok _ _ _ hd fun _ h => by cases h
        obtain ⟨t, ht⟩ := Option.isSome_iff_exists.mp k
        have wt := D.ty_wok ht
        have ed : d = t.d := (D.ty_d ht).symm
        refine absurd (str_ext ?_) (hno t wt)
        have g2 : rn d ++ [] = cat (pieces x) := g2
        rw [List.append_nil, pieces_cat, ed, rn_d t wt] at g2
        exact g2
      · rfl
    · rfl
end V1

namespace V1
open PySem PySem.Spec PyProof.Rows L2 NdefX LamX KT
open PySem.W (Frag)
section
variable {P : Program} {w : World} {K : Frag} {mg : Str → Option Value} {base : Heap}
def spCheckKindT : Sp := fun vs H Q _ => ∃ v t, vs = [v] ∧ TyAt H v t ∧ t.d.dep ≤ 60 ∧ t.d.size ≤ 1000000 ∧ ∀ H', Same H H' → Q .non H'
theorem isKd_d {t : Ty} (h : t.wok) : t.d.isKd = true := by
  unfold D.isKd
  rw [t.ty_d h]
  rfl
theorem ok_checkKindT {f fi : Addr} {fd fdi : FuncData} (T : Top K mg "check_kind" sCheckKind pCheckKind f fd) (TI : Top K mg "is_kind" sIsKind pIsKind fi fdi) (GI : FnOk P w K mg base CX0 2 fi fdi pIsKind spIsKindD) : FnOk P w K mg base CX0 3 f fd pCheckKind spCheckKindT := by
  refine T.F.ok scCheckKind (fun vs H Q E h => ?_) (fun cdv A outer s H vs Q E hr h => ?_)
  · obtain ⟨_, _, rfl, _⟩ := h
    rfl
  · obtain ⟨v, t, rfl, ht, hd, hz, k⟩ := h
    refine ⟨_, pss_one (ps_if (pt_not (pt_val (pe_call GI hr rfl TI.g TI.F.kp TI.b .nil pass0 (pa_cons (pv 0) pa_nil)))) pss_never pss_nil), ?_⟩
    refine ⟨v, rfl, v, t.d, rfl, ht.d, hd, hz, fun H' s' => ⟨_, rfl, ?_⟩⟩
    rw [isKd_d ht.wok]
    exact iteF (k H' s')
/-- a row -/
def RowAt (H : Hp) (L : Addr) (ts : List Ty) : Prop := ∃ us, H L = some (.lst us) ∧ Tys H us ts
def RowOk (ts : List Ty) : Prop := ts.length ≤ 4000 ∧ ∀ t ∈ ts, t.d.dep ≤ 60 ∧ t.d.size ≤ 1000000
def spAreKinds : Sp := fun vs H Q _ => ∃ L ts, vs = [.ref L] ∧ RowAt H L ts ∧ RowOk ts ∧ ∀ H', Same H H' → Q (.bl true) H'
theorem ok_areKinds {f fi : Addr} {fd fdi : FuncData} (T : Top K mg "are_kinds" sAreKinds pAreKinds f fd) (TI : Top K mg "is_kind" sIsKind pIsKind fi fdi) (GI : FnOk P w K mg base CX0 2 fi fdi pIsKind spIsKindD) (B : Blt mg) : FnOk P w K mg base CX0 3 f fd pAreKinds spAreKinds := by
  refine T.F.ok scAreKinds (fun vs H Q E h => ?_) (fun cdv A outer s H vs Q E hr h => ?_)
  · obtain ⟨_, _, rfl, _⟩ := h
    rfl
  · obtain ⟨L, ts, rfl, ⟨us, eL, hT⟩, ho, k⟩ := h
    refine ⟨_, pss_one (ps_ret (pe_and (pe_callB call_isi (by rfl) B.isi (by decide +kernel) (pa_cons (pv 0) (pa_cons (pe_bltn (v := .ty "list") (by rfl) B.list (by decide +kernel) rfl) pa_nil))) (pe_one (pe_callB (cr_all rfl) (by rfl) B.all (by decide +kernel) (pa_cons (pe_lc (own := [("kind", 1)]) (g := gName 1) (tt := tYes) rfl scAreKinds.nd (pi_list (pv 0)) (blkOk_by (N := nAreKinds) (sc := defScope sAreKinds) (by decide +kernel)) (fun _ _ _ _ _ => pg_name (i := 1) scAreKinds.nd rfl (Or.inl rfl)) (fun _ _ _ _ _ => pts_nil) (fun _ _ _ _ _ => (pe_call GI hr rfl TI.g TI.F.kp TI.b .nil pass0 (pa_cons (pv 1) pa_nil)))) pa_nil))))), ?_⟩
    refine ⟨_, rfl, _, _, _, _, true, rfl, .ty "list", .base (.lst eL), kit_ty (by decide +kernel), true, rfl, ?_⟩
    refine ⟨_, rfl, L, rfl, ⟨_, SqL.of eL⟩, fun D hD => ?_⟩
    have lT := hT.length
    refine lc_list (K := K) (xs := us) (fun i H' => Same H H' ∧ H' D = some (.lst (List.replicate i (.bl true)))) ⟨same_upd hD, upd_same⟩ (fun i H' _ q => SqL.of (q.1 _ _ eL)) ?_ ?_
    · rintro i x H' hx ⟨sI, eD⟩
      obtain ⟨t, ht, hxt⟩ := hT.at_ hx
      obtain ⟨hi, _⟩ := List.getElem?_eq_some_iff.mp ht
      obtain ⟨h1, h2⟩ := ho.2 t (List.mem_of_getElem? ht)
      have hl := ho.1
      refine ⟨rfl, x, rfl, x, t.d, rfl, (hxt.mono (TK.of_same sI)).d, h1, h2, fun H2 s2 => ⟨_, s2 _ _ eD, by rw [List.length_replicate, sizeLine_eq]; omega, same_over (sI.trans s2) hD, ?_⟩⟩
      rw [upd_same, isKd_d hxt.wok, ← List.replicate_succ']
    · rintro H' ⟨sI, eD⟩
      refine ⟨D, List.replicate us.length true, rfl, SqL.of (by rw [eD, List.map_replicate]), ?_⟩
      have e : (List.replicate us.length true).all id = true := by
        rw [List.all_eq_true]
        intro b hb
        exact (List.mem_replicate.mp hb).2
      rw [e]
      exact k _ sI
def spCheckRow : Sp := fun vs H Q _ => ∃ L ts, vs = [.ref L] ∧ RowAt H L ts ∧ RowOk ts ∧ ts ≠ [] ∧ ∀ H', Same H H' → Q .non H'
def spIsRow : Sp := fun vs H Q _ => ∃ L ts, vs = [.ref L] ∧ RowAt H L ts ∧ RowOk ts ∧ ts ≠ [] ∧ ∀ H', Same H H' → Q (.bl true) H'
theorem ok_isRow {f fa : Addr} {fd fda : FuncData} (T : Top K mg "is_row" sIsRow pIsRow f fd) (TA : Top K mg "are_kinds" sAreKinds pAreKinds fa fda) (GA : FnOk P w K mg base CX0 3 fa fda pAreKinds spAreKinds) (B : Blt mg) : FnOk P w K mg base CX0 4 f fd pIsRow spIsRow := by
  refine T.F.ok scIsRow (fun vs H Q E h => ?_) (fun cdv A outer s H vs Q E hr h => ?_)
  · obtain ⟨_, _, rfl, _⟩ := h
    rfl
  · obtain ⟨L, ts, rfl, hR, ho, hne, k⟩ := h
    refine ⟨_, pss_one (ps_ret (pe_and (pe_call GA hr rfl TA.g TA.F.kp TA.b .nil pass0 (pa_cons (pv 0) pa_nil)) (pe_one (pe_cmpR op_gt (pe_callB call_len_seq (by rfl) B.len PySem.boot_len (pa_cons (pv 0) pa_nil)) pe_int (nomark _))))), ?_⟩
    refine ⟨_, rfl, L, ts, rfl, hR, ho, fun H1 s1 => ⟨true, rfl, ?_⟩⟩
    obtain ⟨us, eL, hT⟩ := hR
    refine ⟨_, rfl, L, us, rfl, .inl (SqL.of (s1 _ _ eL)), _, _, rfl, rfl, ?_⟩
    have lp : 0 < ts.length := List.length_pos_iff.mpr hne
    have e : decide ((0 : Int) < (us.length : Int)) = true := decide_eq_true (by rw [hT.length]; omega)
    show Q (.bl (decide ((0 : Int) < (us.length : Int)))) H1
    rw [e]
    exact k H1 s1
theorem ok_checkRow {f fa : Addr} {fd fda : FuncData} (T : Top K mg "check_row" sCheckRow pCheckRow f fd) (TA : Top K mg "is_row" sIsRow pIsRow fa fda) (GA : FnOk P w K mg base CX0 4 fa fda pIsRow spIsRow) : FnOk P w K mg base CX0 5 f fd pCheckRow spCheckRow := by
  refine T.F.ok scCheckRow (fun vs H Q E h => ?_) (fun cdv A outer s H vs Q E hr h => ?_)
  · obtain ⟨_, _, rfl, _⟩ := h
    rfl
  · obtain ⟨L, ts, rfl, hR, ho, hne, k⟩ := h
    refine ⟨_, pss_one (ps_if (pt_not (pt_val (pe_call GA hr rfl TA.g TA.F.kp TA.b .nil pass0 (pa_cons (pv 0) pa_nil)))) pss_never pss_nil), ?_⟩
    exact ⟨_, rfl, L, ts, rfl, hR, ho, hne, fun H' s' => ⟨_, rfl, iteF (k H' s')⟩⟩
theorem RowAt.same {H H' : Hp} {L : Addr} {ts : List Ty} (h : RowAt H L ts) (s : Same H H') : RowAt H' L ts := by
  obtain ⟨us, e, hT⟩ := h
  exact ⟨us, s _ _ e, hT.mono (TK.of_same s)⟩
end
theorem tx_sg (g : Sg) : TxtOk g.str := by cases g <;> exact ⟨by decide +kernel, by decide +kernel⟩
def callArgs : Expr → List Expr
  | .Call _ es _ _ => es
  | _ => []
def retE : Stmt → List Expr
  | .Return (some e) _ => [e]
  | _ => []
/-- what folded stands upon -/
structure TFs (K : Frag) (mg : Str → Option Value) (base : Heap) (T : List (Addr × Str)) (ff fi fn fp cI cF PF : Addr) (fdf fdi fdn fdp : FuncData) : Prop where
  TF : TopC K mg "folded" sFolded pFolded ff fdf cF
  TI : TopC K mg "from_inside" sFromInside pFromInside fi fdi cI
  TN : Top K mg "nodes_in" sNodesIn pNodesIn fn fdn
  TP : Top K mg "_parts_of" sPartsOf pPartsOf fp fdp
  tb : Tb1 base mg T cF PF "folded.<locals>.at_part"
/-! ### texts of types -/
def sgT (g : Sg) (a b : D) : D := match a, b with
  | .s x, .s y => .s (((((((Str.empty ++ ("(" : Str)) ++ x) ++ (" " : Str)) ++ g.str) ++ (" " : Str)) ++ y) ++ (")" : Str))
  | _, _ => .o
theorem lit40 : ("(" : Str) = ch 40 := by decide +kernel
theorem lit41 : (")" : Str) = ch 41 := by decide +kernel
theorem lit32 : (" " : Str) = ch 32 := by decide +kernel
theorem empty_app (x : Str) : Str.empty ++ x = x := str_ext (by rw [cps_app]; rfl)
theorem text_fold (t : Ty) : t.fold .s sgT = .s t.text := by
  induction t with
  | w _ => rfl
  | n g a b i j => simp only [Ty.fold, i, j, sgT, empty_app, Ty.text, lit40, lit41, lit32]
theorem len_cps (x : Str) : x.length = x.cps.toList.length := by simp [Str.length]
theorem str_len_app (x y : Str) : (x ++ y).length = x.length + y.length := by rw [len_cps, len_cps, len_cps, cps_app, List.length_append]
theorem text_len (t : Ty) (h : t.wok) : t.text.length ≤ 8 * t.d.size := by
  induction t with
  | w z => have := h.2.1; show z.length ≤ 8 * 1; omega
  | n g a b i j =>
    have i := i h.1
    have j := j h.2
    have l : g.str.length ≤ 5 := by cases g <;> decide +kernel
    have l1 : (ch 40).length = 1 := rfl
    have l2 : (ch 41).length = 1 := rfl
    have l3 : (ch 32).length = 1 := rfl
    simp only [Ty.text, str_len_app, Ty.d, D.size, sizeAll, l1, l2, l3]
    omega
theorem text_chars (t : Ty) (h : t.wok) : ∀ c ∈ t.text.cps.toList, c < 128 := by
  induction t with
  | w z => intro c hc; have := (h.2.2 c hc).2; omega
  | n g a b i j =>
    intro c hc
    have l : ∀ c ∈ g.str.cps.toList, c < 128 := by cases g <;> decide +kernel
    simp only [Ty.text, cps_app, ch_l, List.mem_append, List.mem_singleton] at hc
    rcases hc with ((((((hc | hc) | hc) | hc) | hc) | hc) | hc)
    · omega
    · exact i h.1 c hc
    · omega
    · exact l c hc
    · omega
    · exact j h.2 c hc
    · omega
theorem txt_of {x : Str} (h : ∀ c ∈ x.cps.toList, c < 128) (l : x.length ≤ 1000000) : TxtOk x := by
  refine ⟨?_, l⟩
  unfold PyData.strOk
  simp only [List.all_eq_true, Array.all_eq_true_iff_forall_mem, decide_eq_true_eq]
  intro c hc
  have := h c (by simpa using hc)
  omega
theorem txt_text {t : Ty} (h : t.wok) (z : t.d.size ≤ 100000) : TxtOk t.text := txt_of (text_chars t h) (by have := text_len t h; omega)
theorem nds_size : ∀ (t : Ty) (u : D), u ∈ t.nds.map Ty.d → u.size ≤ t.d.size
  | .w y, u, h => by
    simp only [Ty.nds, List.map_cons, List.map_nil, List.mem_cons, List.not_mem_nil, or_false] at h
    rw [h]
    exact Nat.le_refl _
  | .n g a b, u, h => by
    simp only [Ty.nds, List.map_cons, List.map_append, List.mem_cons, List.mem_append] at h
    simp only [Ty.d, D.size, sizeAll]
    rcases h with h | h | h
    · rw [h]; simp only [Ty.d, D.size, sizeAll]; omega
    · have := nds_size b u h; omega
    · have := nds_size a u h; omega
section
variable {P : Program} {w : World} {K : Frag} {mg : Str → Option Value} {base : Heap} {T : List (Addr × Str)} {cF cT PF PT : Addr}
def spTextOf (T : List (Addr × Str)) : Sp := fun vs H Q _ => ∃ v t, vs = [v] ∧ TyAt H v t ∧ t.d.size ≤ 100000 ∧ Tabs T H ∧ ∀ H', ExtN H H' → Tabs T H' → Q (.str t.text) H'
theorem ok_textOf {f ff fi fn fp cI : Addr} {fd fdf fdi fdn fdp : FuncData} (TD : TopC K mg "_text_of" sTextOf pTextOf f fd cT) (tbT : Tb1 base mg T cT PT "_text_of.<locals>.<lambda>") (U : TFs K mg base T ff fi fn fp cI cF PF fdf fdi fdn fdp) (B : Blt mg) : FnOk P w K mg base L2.CX0 6 f fd pTextOf (spTextOf T) := by
  have GF : FnD P w K mg base 5 ff fdf pFolded (spFolded P w K mg base T) := ok_folded U.TF U.TI U.TN U.TP B U.tb
  have TF := U.TF
  refine FnD.ok (TD.fnd scTextOf (sp := fun _ => spTextOf T) (fun DD vs H Q h => ?_) (fun DD A outer s H vs Q hr dp h => ?_)) fun vs H Q E h => h
  · obtain ⟨_, _, rfl, _⟩ := h
    rfl
  · obtain ⟨v, t, rfl, ht, hz, hT, k⟩ := h
    have hw := ht.wok
    have eq : (("_text_of" : Str) ++ (".<locals>." : Str)) ++ ("<lambda>" : Str) = ("_text_of.<locals>.<lambda>" : Str) := by decide +kernel
    refine ⟨_, (pss_one (ps_ret (pe_dcall (D0 := DD) (cl := []) (fr := []) (js := []) GF hr rfl (fun _ => rfl) dp (fun ok => Caps.nil) rfl TF.T.g TF.T.F.kp TF.T.b
        (pa_cons (pv 0) (pa_cons (pe_lamV (T := T) tbT.b rfl (by show (PT, (("_text_of" : Str) ++ (".<locals>." : Str)) ++ ("<lambda>" : Str)) ∈ _; rw [eq]; exact tbT.m) (fun p hp e => (tbT.u p hp e).trans eq.symm) rfl (ndef_free (sc := L2.defScope sTextOf) (fr := []) (by decide +kernel)))
          (pa_cons (pe_lamV (T := T) tbT.b rfl (by show (PT, (("_text_of" : Str) ++ (".<locals>." : Str)) ++ ("<lambda>" : Str)) ∈ _; rw [eq]; exact tbT.m) (fun p hp e => (tbT.u p hp e).trans eq.symm) rfl (ndef_free (sc := L2.defScope sTextOf) (fr := []) (by decide +kernel))) pa_nil)))))), ?_⟩
    refine ⟨v, rfl, hT, fun f1 c1 H2 eN nn T2 f0 e1 e2 => ⟨T2, fun f2 c2 H3 eN3 nn3 T3' f03 e13 e23 => fun D1 CD => ?_⟩⟩
    obtain ⟨EX2, C2, x2, n2⟩ := lam_callee (P := P) (w := w) (K := K) (mg := mg) (base := base) (k := 1) (sp := spSg T (fun u => u.size ≤ 100000) D.s sgT) (D := DD ++ D1) (N := ["sign", "first", "second"]) (ps := ["sign", "first", "second"]) (fr := []) (ws := []) e13 e23 (nscope_by (by dsimp only [lamF]; decide +kernel)) (fun pm ctv us hl => match us, hl with | [_, _, _], _ => rfl)
      (fun vs H Q h => by obtain ⟨_, _, _, _, _, rfl, _⟩ := h; rfl) CellD.nil (fun A outer s H vs Q hr d h => by
        obtain ⟨g, x, y, a, b, rfl, hT, hsz, hwk, h1, h2, k⟩ := h
        rw [text_fold] at h1 h2
        refine ⟨_, pe_joined (.cons pe_str (.cons (pe_fmt (pv 1)) (.cons pe_str (.cons (pe_fmt (pv 0)) (.cons pe_str (.cons (pe_fmt (pv 2)) (.cons pe_str .nil))))))), ?_⟩
        simp only [Ty.d, D.size, sizeAll] at hsz
        have la := text_len a hwk.1
        have lb := text_len b hwk.2
        have l : g.str.length ≤ 5 := by cases g <;> decide +kernel
        have l1 : ("(" : Str).length = 1 := by decide +kernel
        have l2 : (")" : Str).length = 1 := by decide +kernel
        have l3 : (" " : Str).length = 1 := by decide +kernel
        have l0 : Str.empty.length = 0 := rfl
        cases h1 with
        | @s z1 t1 =>
        cases h2 with
        | @s z2 t2 =>
        refine ⟨_, rfl, by rw [str_len_app, sizeLine_eq]; omega, _, rfl, .inl ⟨_, rfl, by rw [sizeLine_eq]; omega, _, rfl, by rw [str_len_app, str_len_app, sizeLine_eq]; omega, _, rfl, by rw [str_len_app, str_len_app, str_len_app, sizeLine_eq]; omega, _, rfl, .inl ⟨_, rfl, by rw [sizeLine_eq]; omega, _, rfl, by rw [str_len_app, str_len_app, str_len_app, str_len_app, sizeLine_eq]; omega, _, rfl, by rw [str_len_app, str_len_app, str_len_app, str_len_app, str_len_app, sizeLine_eq]; omega, _, rfl, .inl ⟨_, rfl, by rw [sizeLine_eq]; omega, _, rfl, by rw [str_len_app, str_len_app, str_len_app, str_len_app, str_len_app, str_len_app, sizeLine_eq]; omega, _, rfl, by rw [str_len_app, str_len_app, str_len_app, str_len_app, str_len_app, str_len_app, str_len_app, sizeLine_eq]; omega, ?_⟩⟩⟩⟩
        rw [text_fold, text_fold] at k
        refine k _ H (ExtN.refl H) hT (.s ?_)
        have q : ((((((Str.empty ++ ("(" : Str) ++ a.text) ++ (" " : Str)) ++ g.str) ++ (" " : Str)) ++ b.text) ++ (")" : Str)) = (Ty.n g a b).text := by rw [empty_app, lit40, lit32, lit41]; rfl
        rw [q]
        exact txt_text hwk (by simp only [Ty.d, D.size, sizeAll]; omega))
    have e1' := eN3 _ _ e1 (fun ps z => by unfold LamO at z; cases z)
    have e2' := eN3 _ _ e2 codeO_ne
    have eA : ExtN H H3 := eN.trans eN3
    obtain ⟨EX1, C1, x1, n1⟩ := lam_callee (P := P) (w := w) (K := K) (mg := mg) (base := base) (k := 1) (sp := spPl T (fun _ => True) H D.s) (D := DD ++ D1) (N := ["word"]) (ps := ["word"]) (fr := []) (ws := []) e1' e2' (nscope_by (by dsimp only [lamF]; decide +kernel)) (fun pm ctv us hl => match us, hl with | [_], _ => rfl)
      (fun vs H Q h => by obtain ⟨_, rfl, _⟩ := h; rfl) CellD.nil (fun A outer s H' vs Q hr dd h => by
        obtain ⟨z, rfl, he0, hT, hW, hz, k⟩ := h
        exact ⟨_, pv 0, _, rfl, k _ H' (ExtN.refl H') hT (.s (isW_ok hz))⟩)
    have C1' := C1.mono (Nat.le_refl 2) (fun p hp => hp) (EX' := EX1 ++ EX2) fun p hp => List.mem_append.mpr (.inl hp)
    have C2' := C2.mono (Nat.le_refl 2) (fun p hp => hp) (EX' := EX1 ++ EX2) fun p hp => List.mem_append.mpr (.inr hp)
    refine ⟨v, t, f1, f2, D.s, sgT, EX1 ++ EX2, _, _, H, rfl, eA, fun z hz => trivial, fun u hu => Nat.le_trans (nds_size t u hu) hz, ht.mono (extn_tk eA), by omega, C1', C2', fun p hp => (List.mem_append.mp hp).elim (x1 p) (x2 p), fun p hp => (List.mem_append.mp hp).elim (n1 p) (n2 p), T3', fun v' H' e' T' hv' => ?_⟩
    rw [text_fold] at hv'
    cases hv'
    exact k H' (eA.trans e') T'
end
end V1

namespace KT
open PySem PySem.Spec PyProof.Rows L2
open PySem.Sem (wp)
open MeetsSeq
section
variable {prog : Program} {w : World} {A : Around} {E : Value → Shared → Prop} {s : Shared}
theorem bounds_last {k n : Nat} (h : k ≤ n) (h1 : 1 ≤ k) : sliceBounds (some (-(k : Int))) none none n = (((n - k : Nat) : Int), (n : Int), 1) := by
  simp only [sliceBounds, Option.getD_none]
  have h1 : (-(k : Int)) < 0 := by omega
  simp only [h1, if_true, show (1 : Int) > 0 by decide]
  congr 1
  omega
theorem delItem_sliceB {l sl : Addr} {its : List Value} {n : Nat} {vl : Value} {a : Nat} {b : Int} {Q : Unit → Shared → Prop}
    (e : s.heap.get? l = some { cls := .type "list", data := .seq its.toArray n }) (hs : s.heap.IsSliceOf sl vl .none .none) (pl : IsPart vl (some b)) (hb : sliceBounds (some b) none none its.toArray.size = ((a : Int), (its.toArray.size : Int), 1)) (ha : a ≤ its.length) (hsz : its.toArray.size ≤ sizeLine)
    (h : ∀ g : Array Value → Array Value, g its.toArray = (its.take a).toArray → Q () { s with heap := s.heap.update l (Obj.mapSeq g) }) :
    wpAny (model prog w) A (delItem (.ref l) (.ref sl)) Q E s := by
  have hl : s.heap.IsList l its.toArray := PySem.IsL.isList e
  obtain ⟨os, hos, hcs, hds⟩ := id hs
  have hTs : s.TypeIs (.ref sl) "slice" := ⟨os, hos, hcs⟩
  have hstep : ¬ ((rawPart none == rawInt 0) = true) := Bool.false_ne_true
  refine wpAny_delItem_slot hl.typeIs (by decide) F.slot_list_delitem (wpAny_call_entry F.slot_list_delitem hl.typeIs F.entry_list_delitem ?_ (F.args_list_delitem_2 _ _))
  show wpAny _ _ (Builtin.List.listSubscript? (.ref sl) >>= _) _ _ s
  refine wpAny_bind ?_
  unfold Builtin.List.listSubscript?
  refine wpAny_bind (wpAny_specialOf hTs slice_no_index ?_)
  simp only [Option.isNone_none, if_true]
  refine wpAny_pure ?_
  show wpAny _ _ (typeOf (.ref sl) >>= _) _ _ s
  refine wpAny_bind (wpAny_typeOf hTs ?_)
  first
    | rw [if_neg (by decide)]
    | refine PySem.W.KFB.if_not (by decide) ?_
  rw [listSliceParts_eq]
  refine wpAny_bind (wpAny_bind (wpAny_field hos hds (x := .none) rfl (wpAny_bind (wpAny_listPart .none ?_))))
  rw [if_neg hstep]
  refine wpAny_bind (wpAny_field hos hds (x := vl) rfl (wpAny_bind (wpAny_listPart pl ?_)))
  refine wpAny_bind (wpAny_field hos hds (x := .none) rfl (wpAny_bind (wpAny_listPart .none (wpAny_pure ?_))))
  refine wpAny_bind (m := Builtin.List.listItems (.ref l)) ?_
  unfold Builtin.List.listItems
  refine wpAny_bind (wpAny_seqItems e rfl (wpAny_pure ?_))
  refine wpAny_bind (wpAny_of_eq ((sliceIndices_raw (some b) none none its.toArray.size (by simp)).trans (congrArg (pure : Int × Int × Int → Sem (Int × Int × Int)) hb)) ?_)
  refine wpAny_bind (wpAny_rule ?_)
  refine wpAny_bind (wpAny_updateSeq (hz := hsz) (_hz' := ?hz) e rfl ?main)
  case hz =>
    refine Nat.le_trans (Nat.le_of_eq (congrArg Array.size (drop_tail its a ha))) ?_
    rw [List.size_toArray, List.length_take]
    rw [List.size_toArray] at hsz
    omega
  case main =>
    refine wpAny_bind (wpAny_letGo ?_)
    refine wpAny_pure ⟨.none, rfl, h _ ?_⟩
    exact drop_tail its a ha
end
section
variable {X : Cx}
/-- del xs[-b:] of a list -/
def tDelLast (to : TE) (tl : TO) : TS := fun D σ H => to σ H fun x H1 => tl σ H1 fun y H2 => ∃ (l : Addr) (xs : List V) (b : Nat), x = .ref l ∧ y = some (-(b : Int)) ∧ H2 l = some (.lst xs) ∧ b ≤ xs.length ∧ 1 ≤ b ∧ D.nx σ (upd H2 l (.lst (xs.take (xs.length - b))))
theorem ps_delLast {o : Expr} {lo : Option Expr} {to : TE} {tl : TO} {tpos p2 pos : Pos} (ho : PE X o to) (hl : PO X lo tl) : PS X (.Delete [.Subscript o (.Slice lo none none p2) tpos] pos) (tDelLast to tl) := by
  refine ⟨fun pins s σ H D I h => ?_⟩
  refine wpAny_Delete (wpAny_deleteEach_cons (wpAny_delete_Subscript (thn (ho.run pins s σ H _ I h) fun u s1 ⟨x, H1, I1, rx, q1⟩ => wpAny_Slice (thn (hl.run pins s1 σ H1 _ I1 q1) fun vl s2 ⟨l, H2, I2, pl, q2⟩ => ?_))))
  rw [evalPart_none]
  refine wpAny_pure ?_
  refine wpAny_pure ?_
  obtain ⟨ll, xs, b, ex, ey, hH, ha, hb1, q2⟩ := q2
  subst ex
  subst ey
  cases (show u = Value.ref ll from rx)
  have I4 : Inv X pins σ H2 { s2 with heap := s2.heap.push { cls := .type "slice", data := .fields #[vl, .none, .none] } } := I2.kept (t' := s2.toks) fun b ob q => Heap.get?_push_of_some _ q
  obtain ⟨z, its, n, r, hl', e⟩ := I4.lstM hH
  refine delItem_sliceB (a := xs.length - b) (b := -(b : Int)) e (Heap.IsSliceOf.new ..) pl (by rw [List.size_toArray, ← hl']; exact bounds_last ha hb1) (by omega) (by rw [List.size_toArray]; omega) fun g hg => wpAny_deleteEach_nil ⟨σ, _, I4.lset (its' := its.take (xs.length - b)) (t' := s2.toks) hH e hg (r.take (xs.length - b)) ?_, q2⟩
  rw [List.length_take]
  omega
/-- xs[-b:] -/
theorem cutV_last4 {xs : List V} {b : Nat} (h : b ≤ xs.length) (hb : 1 ≤ b) : cutV xs (some (-(b : Int))) none = xs.drop (xs.length - b) := by
  unfold cutV
  have e : HT.sIx xs.length xs.length none = xs.length := rfl
  have e2 : HT.sIx xs.length 0 (some (-(b : Int))) = xs.length - b := by
    show (if (-(b : Int)) < 0 then ((-(b : Int)) + (xs.length : Int)).toNat else _) = _
    rw [if_pos (by omega)]
    omega
  rw [e, e2]
  exact List.take_of_length_le (by simp)
/-- x.split(y), a token out -/
theorem pet_split {o e : Expr} {to te : TE} {apos pos : Pos} (ho : PET X o to) (he : PE X e te) (hs : starEach [e] X.env = [(false, eval e X.env)] := by rfl) (hbase : attributeBase o "split" X.env (eval o X.env) = eval o X.env := by rfl) (hline : (apos.endLine == pos.line) = true := by rfl) :
    PET X (.Call (.Attribute o "split" apos) [e] [] pos) (tM1 (fun x xs H Q => ∃ a b, x = .str a ∧ xs = [.str b] ∧ (b.length == 0) = false ∧ a.length + 2 ≤ sizeLine ∧ rNewStrs (Txt.split a b) H Q) to te) := by
  intro pins s σ H Q h0 I h
  refine PySem.Call_method1 hbase hs hline (thn (ho pins s σ H _ h0 I h) fun u s1 got => ?_)
  obtain ⟨x, H1, I1, rx, ⟨a, ex⟩, q1⟩ := got
  subst ex
  obtain ⟨tk, rfl⟩ := _root_.id rx
  refine ⟨"str", _, PySem.F.plainAttrs_str, PySem.F.slot_str_split, PySem.F.type_str_split, typeIs_str _ _ _, (fun _ e => nomatch e), Calls.callWith_builtin rfl (Calls.evalArgs_plain (Calls.spliced_cons ?_))⟩
  exact thn (he.run pins s1 σ H1 _ I1 q1) fun u2 s2 ⟨y, H2, I2, ry, q2⟩ => Calls.spliced_nil (mt_split pins s2 σ H2 _ [y] _ [u2] Q I2 rx (.cons ry .nil) q2)
end
end KT

namespace V1
open PySem PySem.Spec PyProof.Rows L2 NdefX LamX KT
open PySem.W (Frag)
/-- a def whose body wants a token -/
theorem fun_okT {P : Program} {w : World} {K : Frag} {mg : Str → Option Value} {base : Heap} {x qual : Str} {st : Stmt} {f : Addr} {fd : FuncData} {N ps : List Str} {k : Nat} {sp : Sp} (F : Fun K x qual st f fd) (S : FnScope N ps (defScope st)) (hnc : ∀ y ∈ (defScope st).names, y.2 ≠ .cell) (hps : 1 ≤ ps.length) (len : ∀ vs H Q E, sp vs H Q E → vs.length = ps.length)
    (hbody : ∀ (cdv : Value) (A : Around) (outer : List Env) (s : Shared) (H : Hp) (vs : List V) (Q : VK) (E : XK), Room k (A.deeper (envOfC qual (defScope st) s.heap.objs.size f cdv)) → sp vs H Q E →
      ∃ t, PSsT (cxOf CX0 P w K mg base N qual (defScope st) f cdv A outer s H E) (defBody st) t ∧ t { nx := fun _ H' => Q .non H', rt := Q } (start N vs) H) : FnOk P w K mg base CX0 (k + 1) f fd ps sp := by
  obtain ⟨oc, od, kV, doc, pm, an, cdv, ct, osl, rfl, lk, hcd⟩ := F.ex
  exact fn_ofT lk hcd S hnc hps len fun A outer s H vs Q E hr hsp => hbody cdv A outer s H vs Q E hr hsp
theorem rd_none : ∀ ps : List Str, ps.foldl rd1 none = none
  | [] => rfl
  | _ :: r => rd_none r
theorem rd_short {st : List D} (h : st.length < 4) : rd1 (some st) (ch 41) = none := by
  simp only [rd1, if_pos]
  split
  · rename_i b g a x r e
    have := congrArg List.length e
    rw [List.length_reverse] at this
    simp only [List.length_cons] at this
    omega
  · rfl
theorem rd_long {r : List D} {x a g b : D} : rd1 (some (r ++ [x, a, g, b])) (ch 41) = some (r ++ [.t [g, a, b]]) := by
  simp only [rd1, if_pos]
  have e : (r ++ [x, a, g, b]).reverse = b :: g :: a :: x :: r.reverse := by simp
  rw [e]
  simp
theorem rd_other {st : List D} {p : Str} (h : ¬ p = ch 41) : rd1 (some st) p = some (st ++ [.s p]) := by
  simp only [rd1]
  rw [if_neg h]
/-- closing brackets -/
def clo (l : List Str) : Nat := (l.filter fun p => decide (p = ch 41)).length
theorem clo_app (l m : List Str) : clo (l ++ m) = clo l + clo m := by simp [clo]
theorem clo_le : ∀ l : List Str, clo l ≤ (jn [32] (l.map (·.cps.toList))).count 41 := by
  have one : ∀ p : Str, clo [p] ≤ p.cps.toList.count 41 := fun p => by
    unfold clo
    by_cases c : p = ch 41
    · rw [c]; decide
    · simp [c]
  have two : ∀ (p : Str) (l : List Str), clo (p :: l) = clo [p] + clo l := fun p l => clo_app [p] l
  intro l
  induction l with
  | nil => simp [clo]
  | cons p l ih =>
    cases l with
    | nil => exact one p
    | cons q l =>
      rw [two]
      show _ ≤ (p.cps.toList ++ [32] ++ jn [32] ((q :: l).map fun z : Str => z.cps.toList)).count 41
      rw [List.count_append, List.count_append]
      have := one p
      omega
theorem sub_count (l : List Nat) : (wide l).count 41 = l.count 41 := by
  induction l with
  | nil => rfl
  | cons c l ih =>
    have e : wide (c :: l) = wide [c] ++ wide l := wide_app [c] l
    rw [e, List.count_append, ih]
    by_cases h1 : c = 40
    · subst h1; rw [show wide [40] = [40, 32] by decide]; simp
    · by_cases h2 : c = 41
      · subst h2; rw [show wide [41] = [32, 41] by decide]; simp; omega
      · have e2 : wide [c] = [c] := by
          unfold wide
          rw [sub_none (l := [c]) (by simpa using fun z => h1 z.symm), sub_none (l := [c]) (by simpa using fun z => h2 z.symm)]
        rw [e2]
        have : (c :: l).count 41 = [c].count 41 + l.count 41 := by rw [show c :: l = [c] ++ l from rfl, List.count_append]
        omega
def parts (x : Str) : List Str := Txt.split (wideS x) (ch 32)
theorem clo_parts (x : Str) : clo (parts x) ≤ x.cps.toList.count 41 := by
  have h := clo_le (parts x)
  have e : jn [32] ((parts x).map (·.cps.toList)) = (wideS x).cps.toList := by
    have q := jn_is (ch 32) (parts x)
    rw [show Str.join (ch 32) (parts x) = wideS x from StrLaws.join_split _ _] at q
    exact q.symm
  rw [e, wideS_l, sub_count] at h
  exact h
theorem wide_len (l : List Nat) : (wide l).length ≤ 2 * l.length := by
  induction l with
  | nil => simp [wide, sub]
  | cons c l ih =>
    have e : wide (c :: l) = wide [c] ++ wide l := wide_app [c] l
    have e2 : (wide [c]).length ≤ 2 := by
      by_cases h1 : c = 40
      · subst h1; decide
      · by_cases h2 : c = 41
        · subst h2; decide
        · unfold wide
          rw [sub_none (l := [c]) (by simpa using fun z => h1 z.symm), sub_none (l := [c]) (by simpa using fun z => h2 z.symm)]
          simp
    rw [e, List.length_append]
    simp only [List.length_cons]
    omega
theorem sub_len {c : Nat} {z : List Nat} (hz : z.length ≤ 2) (l : List Nat) : (sub c z l).length ≤ 2 * l.length := by
  induction l with
  | nil => simp [sub]
  | cons d l ih =>
    have e : sub c z (d :: l) = sub c z [d] ++ sub c z l := sub_app c z [d] l
    have e2 : (sub c z [d]).length ≤ 2 := by
      unfold sub
      simp only [List.flatMap_cons, List.flatMap_nil, List.append_nil]
      split
      · exact hz
      · simp
    rw [e, List.length_append]
    simp only [List.length_cons]
    omega
theorem wide_mem {l : List Nat} {c : Nat} (h : c ∈ wide l) : c ∈ l ∨ c = 32 := by
  unfold wide sub at h
  obtain ⟨d, hd, hc⟩ := List.mem_flatMap.mp h
  obtain ⟨e, he, hd⟩ := List.mem_flatMap.mp hd
  split at hd
  · rename_i q
    simp only [List.mem_cons, List.not_mem_nil, or_false] at hd
    rcases hd with rfl | rfl
    · rw [if_neg (by decide)] at hc
      rw [List.mem_singleton] at hc
      exact .inl (by rw [hc, ← q]; exact he)
    · rw [if_neg (by decide)] at hc
      exact .inr (List.mem_singleton.mp hc)
  · rw [List.mem_singleton] at hd
    subst hd
    split at hc
    · rename_i q
      simp only [List.mem_cons, List.not_mem_nil, or_false] at hc
      rcases hc with rfl | rfl
      · exact .inr rfl
      · exact .inl (by rw [← q]; exact he)
    · exact .inl (by rw [List.mem_singleton.mp hc]; exact he)
/-- a text that may be read -/
def RdOk (x : Str) : Prop := (∀ c ∈ x.cps.toList, c < 128) ∧ x.length ≤ 20000 ∧ x.cps.toList.count 41 ≤ 50
theorem jn_mem {y : List Nat} {c : Nat} : ∀ {l : List (List Nat)} {a : List Nat}, a ∈ l → c ∈ a → c ∈ jn y l
  | [a], b, h, hc => by rw [List.mem_singleton.mp h] at hc; exact hc
  | a :: b :: r, x, h, hc => by
    show c ∈ a ++ y ++ jn y (b :: r)
    rcases List.mem_cons.mp h with rfl | h
    · simp [hc]
    · simp [jn_mem (y := y) h hc]
theorem part_mem {x y p : Str} (h : p ∈ Txt.split x y) : ∀ c ∈ p.cps.toList, c ∈ x.cps.toList := fun c hc => by
  have q := jn_is y (Txt.split x y)
  rw [StrLaws.join_split] at q
  rw [q]
  exact jn_mem (List.mem_map.mpr ⟨p, h, rfl⟩) hc
theorem part_ok {x p : Str} (h : RdOk x) (hp : p ∈ parts x) : TxtOk p := by
  have l := part_short (x := wideS x) hp
  have lw := wide_len x.cps.toList
  rw [← wideS_l, ← len_cps, ← len_cps] at lw
  have := h.2.1
  refine txt_of (fun c hc => ?_) (by omega)
  have q := part_mem hp c hc
  rw [wideS_l] at q
  rcases wide_mem q with q | q
  · exact h.1 c q
  · omega
section
variable {P : Program} {w : World} {K : Frag} {mg : Str → Option Value} {base : Heap} {T : List (Addr × Str)}
def spPutTogether : Sp := fun vs H Q _ => ∃ x : Str, vs = [.str x] ∧ RdOk x ∧ ∀ v' H', Same H H' → DAt H' v' (rdD x) → (rdD x).dep ≤ 60 → (rdD x).size ≤ 60000 → Q v' H'
theorem ok_putTogether {f : Addr} {fd : FuncData} (T : Top K mg "_put_together" sPutTogether pPutTogether f fd) (B : Blt mg) : FnOk P w K mg base CX0 1 f fd pPutTogether spPutTogether := by
  refine fun_okT T.F scPutTogether (by decide +kernel) (by decide) (fun vs H Q E h => ?_) (fun cdv A outer s H vs Q E hr h => ?_)
  · obtain ⟨_, rfl, _⟩ := h
    rfl
  · obtain ⟨x, rfl, hx, k⟩ := h
    refine ⟨_, psst_cons (PST.of (ps_set (i := 1) scPutTogether.nd rfl (Or.inl rfl) (pe_lst pa_nil))) (psst_cons (pst_for (passes_of rfl) rfl (pit_list (KT.pet_split (CwR.pet_replT (CwR.pet_replC (pv 0))) pe_str)) (pg_name (i := 2) scPutTogether.nd rfl (Or.inl rfl))
        (pss_one (ps_if (pt_cmpR op_ne (pv 2) pe_str (nomark _)) (pss_one (ps_expr (pe_bm PySem.F.plainAttrs_list PySem.F.slot_list_append PySem.F.type_list_append mt_append (pv 1) (pa_cons (pv 2) pa_nil)))) (pss_one (ps_if (pt_cmpR op_lt (pe_callB call_len_seq (by rfl) B.len PySem.boot_len (pa_cons (pv 1) pa_nil)) pe_int (nomark _)) (pss_one (ps_ret pe_non))
          (pss_cons (ps_asg (pe_slice sl_list (pv 1) (po_some (pe_un un_neg pe_int)) po_none) (pg_lst (by rfl) (pgs_cons (pg_name (i := 3) scPutTogether.nd rfl (Or.inl rfl)) (pgs_cons (pg_name (i := 4) scPutTogether.nd rfl (Or.inl rfl)) (pgs_cons (pg_name (i := 5) scPutTogether.nd rfl (Or.inl rfl)) (pgs_cons (pg_name (i := 6) scPutTogether.nd rfl (Or.inl rfl)) pgs_nil))))))
      (pss_cons (KT.ps_delLast (pv 1) (po_some (pe_un un_neg pe_int)))
      (pss_one (ps_expr (pe_bm PySem.F.plainAttrs_list PySem.F.slot_list_append PySem.F.type_list_append mt_append (pv 1) (pa_cons (pe_tup (pa_cons (pv 5) (pa_cons (pv 4) (pa_cons (pv 6) pa_nil)))) pa_nil)))))))))))
      (PSsT.of (pss_one (ps_ret (pe_ifExp (pt_cmpR op_eq (pe_callB call_len_seq (by rfl) B.len PySem.boot_len (pa_cons (pv 1) pa_nil)) pe_int (nomark _)) (pe_ix ix_list (pv 1) pe_int (fun _ _ => rfl)) pe_non))))), ?_⟩
    obtain ⟨hc, hl, h41⟩ := id hx
    have z1 : ("( " : Str) = ⟨#[40, 32]⟩ := by decide +kernel
    have z2 : (" )" : Str) = ⟨#[32, 41]⟩ := by decide +kernel
    have ep : Txt.split (Txt.replace (Txt.replace x ("(" : Str) ("( " : Str)) (")" : Str) (" )" : Str)) (" " : Str) = parts x := by rw [lit40, lit41, lit32, z1, z2]; rfl
    have l2 : ("( " : Str).length = 2 := by decide +kernel
    have l3 : (" )" : Str).length = 2 := by decide +kernel
    have l1 : (Txt.replace x ("(" : Str) ("( " : Str)).length ≤ 2 * x.length := by
      rw [lit40, z1, len_cps, replace_is _ _ _ (by decide), len_cps x]
      exact sub_len (by decide) _
    have lw : (Txt.replace (Txt.replace x ("(" : Str) ("( " : Str)) (")" : Str) (" )" : Str)).length ≤ 2 * x.length := by
      rw [lit40, lit41, z1, z2]
      show (wideS x).length ≤ _
      rw [len_cps, wideS_l, len_cps x]
      exact wide_len _
    refine ⟨by show 0 ≤ sizeLine; exact Nat.zero_le _, fun W hW => ?_⟩
    refine ⟨_, rfl, x, rfl, by rw [l2]; omega, _, rfl, by rw [l3]; omega, ⟨_, rfl⟩, _, _, rfl, rfl, by decide +kernel, by rw [sizeLine_eq]; omega, fun p hp => ⟨p, rfl, ⟨_, SqL.of upd_same⟩, ?_⟩⟩
    rw [ep]
    have nWp : W ≠ p := ne_of_none upd_same hp
    have lp : (parts x).length ≤ 60000 := by
      have q := split_le (wideS x) (ch 32)
      have q2 := wide_len x.cps.toList
      rw [← wideS_l, ← len_cps, ← len_cps] at q2
      have : (parts x).length ≤ (wideS x).length + 2 := q
      omega
    have s0 : Same H (upd (upd H W (.lst [])) p (.lst ((parts x).map V.str))) := (same_upd hW).trans (same_upd hp)
    refine for_list (K := K) (xs := (parts x).map V.str) (fun i σ H' => ∃ (v2 v3 v4 v5 v6 : Option V) (st : List D) (vs : List V), σ = [some (.str x), some (.ref W), v2, v3, v4, v5, v6] ∧ Same H H' ∧ H' p = some (.lst ((parts x).map V.str)) ∧ H' W = some (.lst vs) ∧ DsAt H' vs st ∧ ((parts x).take i).foldl rd1 (some []) = some st ∧ sizeAll st ≤ i ∧ st.length ≤ i ∧ ∀ u ∈ st, u.dep ≤ clo ((parts x).take i))
      ⟨none, none, none, none, none, [], [], rfl, s0, upd_same, by rw [upd_ne nWp, upd_same], .nil, by simp, by simp [sizeAll], by simp, fun u hu => by cases hu⟩ (fun i σ H' _ ⟨_, _, _, _, _, _, _, _, _, e, _⟩ => SqL.of e) ?_ ?_
    · rintro i y σ H' hy ⟨v2, v3, v4, v5, v6, st, vs, rfl, sH, ePp, eW, hD, hf, hz, hn, hdp⟩
      rw [List.getElem?_map] at hy
      obtain ⟨z, hzi, rfl⟩ := Option.map_eq_some_iff.mp hy
      obtain ⟨hi, _⟩ := List.getElem?_eq_some_iff.mp hzi
      have mz := List.mem_of_getElem? hzi
      have lv := hD.length
      have tk1 : (parts x).take (i + 1) = (parts x).take i ++ [z] := by rw [List.take_add_one, hzi]; rfl
      have hf1 : ((parts x).take (i + 1)).foldl rd1 (some []) = rd1 (some st) z := by rw [tk1, List.foldl_append, hf]; rfl
      have hcl : clo ((parts x).take (i + 1)) = clo ((parts x).take i) + clo [z] := by rw [tk1, clo_app]
      by_cases c : z = ch 41
      · subst c
        have c1 : clo [ch 41] = 1 := by decide
        refine ⟨_, rfl, rfl, false, congrArg V.bl (by rw [lit41]; simp), iteF ?_⟩
        refine ⟨_, rfl, W, vs, rfl, .inl (SqL.of eW), _, _, rfl, rfl, _, rfl, ?_⟩
        by_cases c4 : vs.length < 4
        · rw [decide_eq_true (show ((vs.length : Nat) : Int) < 4 by omega)]
          refine iteT ?_
          have e0 : rdD x = .o := by
            unfold rdD rdAll
            have q : (Txt.split (wideS x) (ch 32)).foldl rd1 (some []) = none := by
              show (parts x).foldl rd1 (some []) = none
              rw [← List.take_append_drop (i + 1) (parts x), List.foldl_append, hf1, rd_short (by omega), rd_none]
            rw [q]
          exact k .non H' sH (by rw [e0]; exact .o) (by rw [e0]; simp [D.dep]) (by rw [e0]; simp [D.size])
        · rw [decide_eq_false (show ¬ ((vs.length : Nat) : Int) < 4 by omega)]
          refine iteF ⟨_, rfl, _, rfl, _, rfl, W, vs, rfl, SqL.of eW, fun S nS => ?_⟩
          have ecut : cutV vs (some (-4)) none = vs.drop (vs.length - 4) := KT.cutV_last4 (b := 4) (by omega) (by decide)
          rw [ecut]
          have est : st = st.take (st.length - 4) ++ st.drop (st.length - 4) := (List.take_append_drop _ _).symm
          obtain ⟨u0, u1, u2, u3, e4⟩ : ∃ u0 u1 u2 u3, st.drop (st.length - 4) = [u0, u1, u2, u3] := by
            have l4 : (st.drop (st.length - 4)).length = 4 := by rw [List.length_drop]; omega
            match st.drop (st.length - 4), l4 with
            | [a, b, c, d], _ => exact ⟨a, b, c, d, rfl⟩
          obtain ⟨D1, D2⟩ := DsAt.split (us := vs) (by rw [← est]; exact hD)
          have elt : (st.take (st.length - 4)).length = vs.length - 4 := by rw [List.length_take]; omega
          rw [elt] at D1 D2
          rw [e4] at D2 est
          obtain ⟨y0, y1, y2, y3, ed, k0, k1, k2, k3⟩ : ∃ y0 y1 y2 y3, vs.drop (vs.length - 4) = [y0, y1, y2, y3] ∧ DAt H' y0 u0 ∧ DAt H' y1 u1 ∧ DAt H' y2 u2 ∧ DAt H' y3 u3 := by
            generalize vs.drop (vs.length - 4) = dr at D2 ⊢
            cases D2 with
            | cons a0 D2 => cases D2 with
              | cons a1 D2 => cases D2 with
                | cons a2 D2 => cases D2 with
                  | cons a3 D2 => cases D2; exact ⟨_, _, _, _, rfl, a0, a1, a2, a3⟩
          rw [ed]
          have nWS : W ≠ S := ne_of_none eW nS
          have sS := same_upd (o := .lst [y0, y1, y2, y3]) nS
          refine ⟨S, _, rfl, SqL.of upd_same, rfl, _, _, rfl, _, _, rfl, _, _, rfl, _, _, rfl, rfl, ?_⟩
          dsimp only
          have eW1 := sS _ _ eW
          refine ⟨_, rfl, _, rfl, _, rfl, W, vs, 4, rfl, rfl, eW1, by omega, by decide, ?_⟩
          refine ⟨_, rfl, .inl ⟨rfl, _, SqL.of upd_same⟩, _, rfl, _, rfl, _, rfl, by show 3 ≤ sizeLine; rw [sizeLine_eq]; omega, fun tp ntp => ?_⟩
          have ntW : tp ≠ W := fun z => by rw [z, upd_same] at ntp; cases ntp
          refine ⟨W, _, .ref tp, rfl, rfl, by rw [upd_ne ntW.symm, upd_same], by rw [List.length_take, sizeLine_eq]; omega, ?_⟩
          have tkS := TK.of_same sS
          have tkW : TK (upd H' S (.lst [y0, y1, y2, y3])) (upd (upd H' S (.lst [y0, y1, y2, y3])) W (.lst (vs.take (vs.length - 4)))) := TK.upd_lst eW1
          have tkA := (tkS.trans tkW).trans ((TK.upd_new (o := .tup [y2, y1, y3]) ntp).trans (TK.upd_lst (a := W) (xs := vs.take (vs.length - 4)) (ys := vs.take (vs.length - 4) ++ [.ref tp]) (by rw [upd_ne ntW.symm, upd_same])))
          have hsz : sizeAll st = sizeAll (st.take (st.length - 4)) + (u0.size + (u1.size + (u2.size + (u3.size + 0)))) := by
            conv => lhs; rw [est]
            rw [sizeAll_app]
            rfl
          have mem4 : ∀ u ∈ [u0, u1, u2, u3], u ∈ st := fun u hu => by rw [est]; exact List.mem_append.mpr (.inr hu)
          refine ⟨_, _, _, _, _, st.take (st.length - 4) ++ [.t [u2, u1, u3]], _, rfl, ?_, ?_, upd_same, (D1.mono tkA).append (.cons (.t ?_ (.cons (k2.mono tkA) (.cons (k1.mono tkA) (.cons (k3.mono tkA) .nil)))) .nil), ?_, ?_, ?_, fun u hu => ?_⟩
          · exact same_over ((same_over (sH.trans sS) hW).trans (same_upd ntp)) hW
          · have np1 : p ≠ W := nWp.symm
            have q1 := sS _ _ ePp
            have ntp' : tp ≠ p := fun z => by rw [z, upd_ne np1, q1] at ntp; cases ntp
            rw [upd_ne np1, upd_ne ntp'.symm, upd_ne np1]
            exact q1
          · rw [upd_ne ntW, upd_same]
          · rw [hf1]
            conv => lhs; rw [est]
            exact rd_long
          · rw [sizeAll_app]
            simp only [sizeAll, D.size]
            have := u0.size_pos
            omega
          · rw [List.length_append, List.length_take]
            simp only [List.length_cons, List.length_nil]
            omega
          · rw [hcl, c1]
            rcases List.mem_append.mp hu with hu | hu
            · have := hdp u (List.mem_of_mem_take hu)
              omega
            · rw [List.mem_singleton.mp hu]
              have q1 := hdp u1 (mem4 u1 (by simp))
              have q2 := hdp u2 (mem4 u2 (by simp))
              have q3 := hdp u3 (mem4 u3 (by simp))
              simp only [D.dep, depAll]
              omega
      · refine ⟨_, rfl, rfl, true, congrArg V.bl (by rw [lit41]; simp [c]), iteT ?_⟩
        refine ⟨_, rfl, .inl ⟨rfl, _, SqL.of eW⟩, _, rfl, W, _, .str z, rfl, rfl, eW, by rw [lv, sizeLine_eq]; omega, ?_⟩
        have tkW : TK H' (upd H' W (.lst (vs ++ [.str z]))) := TK.upd_lst eW
        refine ⟨_, _, _, _, _, st ++ [.s z], vs ++ [.str z], rfl, same_over sH hW, by rw [upd_ne nWp.symm]; exact ePp, upd_same, (hD.mono tkW).append (.cons (.s (part_ok hx mz)) .nil), by rw [hf1, rd_other c], ?_, ?_, fun u hu => ?_⟩
        · rw [sizeAll_app]
          simp only [sizeAll, D.size]
          omega
        · rw [List.length_append]
          simp only [List.length_cons, List.length_nil]
          omega
        · rw [hcl]
          rcases List.mem_append.mp hu with hu | hu
          · have := hdp u hu
            omega
          · rw [List.mem_singleton.mp hu]
            simp [D.dep]
    · rintro σ H' ⟨v2, v3, v4, v5, v6, st, vs, rfl, sH, ePp, eW, hD, hf, hz, hn, hdp⟩
      rw [List.length_map] at hz hn
      rw [List.length_map, List.take_length] at hf hdp
      have lv := hD.length
      have hcp := clo_parts x
      have e0 : rdD x = (match some st with | some [d] => d | _ => D.o) := by
        unfold rdD rdAll
        show (match (parts x).foldl rd1 (some []) with | some [d] => d | _ => D.o) = _
        rw [hf]
      refine ⟨_, rfl, W, vs, rfl, .inl (SqL.of eW), rfl, ?_⟩
      match st, vs, hD, e0, hdp, hz with
      | [d], [v], .cons hd .nil, e0, hdp, hz =>
        have e1 : rdD x = d := e0
        refine ⟨true, congrArg V.bl (decide_eq_true rfl), iteT ⟨_, rfl, W, _, _, _, rfl, rfl, SqL.of eW, atI_nat (j := 0) rfl, ?_⟩⟩
        have h1 := hdp d List.mem_cons_self
        simp only [sizeAll] at hz
        exact k v H' sH (by rw [e1]; exact hd) (by rw [e1]; omega) (by rw [e1]; omega)
      | [], [], .nil, e0, hdp, hz =>
        have e1 : rdD x = .o := e0
        refine ⟨false, congrArg V.bl (decide_eq_false (by decide)), iteF ?_⟩
        exact k .non H' sH (by rw [e1]; exact .o) (by rw [e1]; simp [D.dep]) (by rw [e1]; simp [D.size])
      | d1 :: d2 :: ds, v1 :: v2 :: vs, .cons _ (.cons _ r), e0, hdp, hz =>
        have e1 : rdD x = .o := e0
        refine ⟨false, congrArg V.bl (decide_eq_false (fun z => by injection z with z; simp only [List.length_cons] at z; omega)), iteF ?_⟩
        exact k .non H' sH (by rw [e1]; exact .o) (by rw [e1]; simp [D.dep]) (by rw [e1]; simp [D.size])
end
end V1

/-! Rules of our own: defs that are called where no repr is under way; errors as values; repr of data. -/
namespace K1
open PySem PySem.Spec PyProof.Rows L2
/-- what FnOk says, of calls made while no repr is under way -/
structure FnG (P : Program) (w : World) (K : PySem.W.Frag) (mg : Str → Option Value) (base : Heap) (k : Nat) (f : Addr) (fd : FuncData) (ps : List Str) (sp : Sp) : Prop where
  len : ∀ vs H Q E, sp vs H Q E → vs.length = ps.length
  run : ∀ (B : Around) (outer : List Env) (s : Shared) (H : Hp) (args : Args) (us : List Value) (vs : List V) (Q : VK), B.guards = some [] → Room k B → Env0 P w K mg base B outer s H →
    BindsTo s fd args (ps.zip us) → Vals vs us → sp vs H Q E0 → codeAny (model P w) B (.call (.ref f) args) (CR CX0 outer P w H s Q E0) s
theorem gn_of {P : Program} {w : World} {K : PySem.W.Frag} {mg : Str → Option Value} {base : Heap} {x qual : Str} {st : Stmt} {f : Addr} {fd : FuncData} {N ps : List Str} {k : Nat} {sp : Sp} (F : Fun K x qual st f fd)
    (S : FnScope N ps (defScope st)) (len : ∀ vs H Q E, sp vs H Q E → vs.length = ps.length)
    (body : ∀ (cdv : Value) (B : Around) (outer : List Env) (s : Shared) (H : Hp) (vs : List V) (Q : VK), B.guards = some [] → Room k (B.deeper (envOfC qual (defScope st) s.heap.objs.size f cdv)) → sp vs H Q E0 →
      ∃ t, PSs (cxOf CX0 P w K mg base N qual (defScope st) f cdv B outer s H E0).nox (defBody st) t ∧ t { nx := fun _ H' => Q .non H', rt := Q } (start N vs) H) :
    FnG P w K mg base (k + 1) f fd ps sp := by
  obtain ⟨oc, od, kV, doc, pm, an, cdv, ct, osl, rfl, lk, hcd⟩ := F.ex
  refine ⟨len, fun B outer s H args us vs Q hg hr e0 hb r hsp => ?_⟩
  have hl := len _ _ _ _ hsp
  have KX : K.In s.heap := e0.mod.kin.keeps fun b o e => (e0.bs b o e).1
  have lim : s.heap.NoLimit := e0.mod.nolimit.keeps fun b o e => (e0.bs b o e).1
  have kinds : ∀ y ∈ ps.zip us, (defScope st).names.lookup y.1 = some .local ∨ ((defScope st).names.lookup y.1 = some .cell ∧ ((cellsFrom (s.heap.objs.size + 1) (defScope st).names []).lookup y.1).isSome = true) := by
    rintro ⟨n, v⟩ hy
    exact (S.par n (List.of_mem_zip hy).1).imp id fun q => ⟨q, PySem.W.cellsFrom_some _ _ _ (.inl q)⟩
  refine codeAny_call_function hr.depth (KX _ _ lk) rfl S.co S.gen rfl (PySem.W.codeRec_of KX hcd) (hb _ _ _ _ ?_)
  refine wpAny_newFunctionEnv_cells S.kind kinds fun env he s1 z => ?_
  subst he
  refine ⟨lim.keeps z.toInCall.keep, codeAny_func ?_⟩
  obtain ⟨t, ht, hq⟩ := body cdv B outer s H vs Q hg (hr.deeper _) hsp
  have I := inv_start (CX := CX0) (E := E0) S hr.hd e0 hl r z
  refine wpAny_mono (ht.nox.run [] s1 (start N vs) H _ I hq) (fun fl s' hs => ?_) fun e s' hs => hs
  cases fl with
  | ret u =>
    obtain ⟨v, σ', H', J, rv, q⟩ := hs
    exact ⟨v, H', J.os, J.bare, J.base, J.hok, rv, q⟩
  | next =>
    obtain ⟨σ', H', J, q⟩ := hs
    exact ⟨V.non, H', J.os, J.bare, J.base, J.hok, rfl, q⟩
  | brk =>
    obtain ⟨_, _, _, q⟩ := hs
    exact False.elim q
  | cont =>
    obtain ⟨_, _, _, q⟩ := hs
    exact False.elim q
section
variable {X : Cx} {k : Nat} {f : Addr} {fd : FuncData} {ps : List Str} {sp : Sp} {x : Str} {p pos : Pos} {e : Expr} {es : List Expr} {t : TA}
theorem run_gn {pins : List (Addr × Obj)} {σ : L2.St} {H : Hp} {s : Shared} {Q : VK} {us : List Value} {vs : List V} (F : FnG X.prog X.w X.K X.mg X.base k f fd ps sp) (hG : X.A.guards = some []) (hr : Room k X.A) (hb : Binds X.K fd ps [])
    (I : Inv X pins σ H s) (r : Vals vs us) (h : sp vs H Q E0) : wpAny (model X.prog X.w) X.A (call (.ref f) us) (EP X pins σ Q) X.xe s := by
  have hl : (us ++ []).length = ps.length := by
    rw [List.append_nil, ← r.length]
    exact F.len _ _ _ _ h
  have hb' := hb s us I.kIn hl
  rw [List.append_nil] at hb'
  refine wpAny_call (codeAny_mono (F.run X.A X.stack s H ⟨us, []⟩ us vs Q hG hr I.env0 hb' r h) fun q s' hq => ?_)
  match q, hq with
  | .error _, hq => exact False.elim hq
  | .ok (.ret _), hq => exact I.after hq
  | .ok .next, hq => exact False.elim hq
  | .ok .brk, hq => exact False.elim hq
  | .ok .cont, hq => exact False.elim hq
theorem pe_gcall (F : FnG X.prog X.w X.K X.mg X.base k f fd ps sp) (hG : X.A.guards = some []) (hr : Room k X.A) (hg : Gl X x) (hm : X.mg x = some (.ref f)) (hk : PySem.W.keepIn X.K (.ref f) = true) (hb : Binds X.K fd ps [])
    (ha : PA X (e :: es) t) (hdb : (x == ("__debug__" : Str)) = false := by decide) (he : starEach (e :: es) X.env = (false, eval e X.env) :: starEach es X.env := by rfl) (hpl : (backTo pos (starEach es X.env)).any (·.1) = false := by rfl) :
    PE X (.Call (.Name x p) (e :: es) [] pos) (fun σ H Q => t σ H fun vs H1 => sp vs H1 Q E0) := by
  refine ⟨fun pins s σ H Q I h => wpAny_Call_Name_kw (ld_glob I hg hm ?_ hdb)⟩
  exact PySem.W.callWith_K (h₀ := X.base) I.ok.mod.kin hk (thn (ha.run pos pins s σ H _ I h) fun us s1 ⟨vs, H1, I1, r, q⟩ => ⟨I1.kIn, run_gn F hG hr hb I1 r q⟩) he hpl
end
end K1

namespace PySem
namespace HandSPX
open Builtin Builtin.ObjectAttr
section
variable {M : Model} {A : Around} {E : Value → Shared → Prop} {h : Heap} {g : Array GenState} {d : Drawn} {t : Nat} {os : OsState}
variable {nm q : Str} {C N : Addr} {bs bm bmB : List Value} {hdct : Bool} {sn : List Str} {sub : List Value} {ab : Bool} {col : Option Bool} {dd : Option Addr} {k0 k1 k2 k3 k5 : Option Value} {B newId initId : String} {kw : List (Str × Value)} {rest : List Value}
theorem kwCheckNew (F : ExcBaseFacts B newId initId bmB) (same : ∀ X : String, bm.contains (.type X) = bmB.contains (.type X)) {Q : Unit → Shared → Prop}
    (at_C : h.get? C = some (excClassObj nm q C N bs bm hdct sn sub ab col dd k0 k1 k2 k3 k5 newId)) (hq : Q () ⟨h, g, d, t, os⟩) : wpAny M A (checkBuiltinCall newId ⟨.ref C :: rest, kw⟩) Q E ⟨h, g, d, t, os⟩ := by
  have inB : (Value.ref C :: bm).contains (.type B) = true := by
    rw [List.contains_cons, same, F.hasB, Bool.or_true]
  have star := F.noStar
  simp only [checkBuiltinCall, F.newKind, F.newSplit, F.newRow]
  repeat (first | refine wpAny_loadPart_at at_C ?_ | (refine wpAny_isSubtype_exc at_C ?_; rw [inB]) | refine wpAny_staticBase_exc at_C ?_ | refine wpAny_madeBy_exc at_C ?_ | simp only [bne_self_eq_false, Bool.false_eq_true, if_false] | wp_step)
  all_goals exact hq
end
section
variable {prog : Program} {w : World} {A : Around} {E : Value → Shared → Prop} {R : Result → Shared → Prop} {h : Heap} {g : Array GenState} {d : Drawn} {t : Nat} {os : OsState}
variable {nm q : Str} {C N : Addr} {bs bm bmB : List Value} {hdct : Bool} {sn : List Str} {sub : List Value} {ab : Bool} {col : Option Bool} {dd : Option Addr} {k0 k1 k2 k3 k5 : Option Value} {B newId initId : String} {kw : List (Str × Value)} {rest : List Value}
theorem kwNew (F : ExcBaseFacts B newId initId bmB) (same : ∀ X : String, bm.contains (.type X) = bmB.contains (.type X))
    (at_C : h.get? C = some (excClassObj nm q C N bs bm hdct sn sub ab col dd k0 k1 k2 k3 k5 newId))
    (hq : R (.ok (.ret (.ref (h.objs.size + 1)))) ⟨(h.push (W.kdv_tup rest)).push (excO C h.objs.size), g, d, t, os⟩) (few : rest.length ≤ sizeLine) :
    codeAny (model prog w) A (.builtin newId ⟨.ref C :: rest, kw⟩) R ⟨h, g, d, t, os⟩ := by
  have ends := F.ends
  have inB : (Value.ref C :: bm).contains (.type B) = true := by
    rw [List.contains_cons, same, F.hasB, Bool.or_true]
  have inA : (Value.ref C :: bm).contains (.type "AttributeError") = false := by
    rw [List.contains_cons, same, F.noAttr]
    rfl
  have inN : (Value.ref C :: bm).contains (.type "NameError") = false := by
    rw [List.contains_cons, same, F.noName]
    rfl
  refine codeAny_builtinAt F.entry ?_
  unfold Builtin.«BaseException.__new__»
  refine wpAt_bind ?_
  show wpAt _ _ _ (stack >>= _) _ _ _
  refine wpAt_bind (wpAt_stack fun p below => wpAt_of_wpAny ?_)
  wp_walk
  refine wpAt_of_wpAny ?_
  rw [F.owner]
  repeat (first | with_reducible refine wpAny_madeHere_exc F.canon at_C ?_ | with_reducible refine wpAny_loadPart_at at_C ?_ | (with_reducible refine wpAny_isSubtype_exc at_C ?_; first | rw [inB] | rw [inA] | rw [inN]) | wp_step)
  show R _ _
  rw [Heap.size_push]
  exact hq
theorem kwTypeCall (F : ExcBaseFacts B newId initId bmB) (same : ∀ X : String, bm.contains (.type X) = bmB.contains (.type X)) {fI : Addr} {Q : Fin → Shared → Prop}
    (at_C : h.get? C = some (excClassObj nm q C N bs bm hdct sn sub ab col dd k0 k1 k2 k3 k5 newId))
    (hi : W.Looks (model prog w) h (typeLookup (.ref C) "__init__") (some (.ref fI))) (hb : ∀ self, W.Looks (model prog w) h (bindSpecial (.ref fI) self) (.ref fI, [self])) (few : rest.length ≤ sizeLine)
    (hq : codeAny (model prog w) A (.call (.ref fI) ⟨.ref (h.objs.size + 1) :: rest, kw⟩)
      (fun r s' => match r with | .ok (.ret v) => v = .none ∧ Q (.done (.ret (.ref (h.objs.size + 1)))) s' | .ok _ => False | .error e => E e s')
      ⟨(h.push (W.kdv_tup rest)).push (excO C h.objs.size), g, d, t, os⟩) :
    wpAny (model prog w) A (Builtin.«type.__call__» ⟨.ref C :: rest, kw⟩) Q E ⟨h, g, d, t, os⟩ := by
  repeat (first | with_reducible refine wpAny_loadPart_at at_C ?_ | with_reducible refine wpAny_madeBy_exc at_C ?_ | wp_step)
  refine codeAny_call_builtin_code (Code.quiet_builtin _ F.quiet) (kwCheckNew F same at_C ?_)
  refine kwNew F same at_C ?_ few
  show wpAny _ _ _ _ _ _
  have keep : ∀ b o, h.get? b = some o → ((h.push (W.kdv_tup rest)).push (excO C h.objs.size)).get? b = some o := fun b o e => Heap.get?_push_of_some _ (Heap.get?_push_of_some _ e)
  have at_C1 := keep _ _ at_C
  have at_e : ((h.push (W.kdv_tup rest)).push (excO C h.objs.size)).get? (h.objs.size + 1) = some (excO C h.objs.size) := by heap_get
  have inC : (Value.ref C :: bm).contains (.ref C) = true := by simp
  have i1 := hi.keeps keep
  have b1 := (hb (.ref (h.objs.size + 1))).keeps keep
  unfold isInstance
  repeat (first | with_reducible refine wpAny_loadPart_at at_e ?_ | (with_reducible refine wpAny_isSubtype_exc at_C1 ?_; rw [inC]) | wp_step)
  show wpAny _ _ (typeLookup (.ref C) _) _ _ _
  refine i1.at (wpAny_holding (wpAny_bind (b1.at ?_)))
  refine wpAny_bind (wpAny_call (codeAny_mono hq fun r s' z => ?_))
  match r, z with
  | .error e, z => exact z
  | .ok (.ret v), z =>
    obtain ⟨rfl, z⟩ := z
    first
      | exact wpAny_pure (wpAny_pure z)
      | (wp_walk; exact z)
  | .ok .next, z => exact z.elim
  | .ok .brk, z => exact z.elim
  | .ok .cont, z => exact z.elim
theorem kwCall (F : ExcBaseFacts B newId initId bmB) (same : ∀ X : String, bm.contains (.type X) = bmB.contains (.type X)) {fI : Addr}
    (at_C : h.get? C = some (excClassObj nm q C N bs bm hdct sn sub ab col dd k0 k1 k2 k3 k5 newId))
    (hi : W.Looks (model prog w) h (typeLookup (.ref C) "__init__") (some (.ref fI))) (hb : ∀ self, W.Looks (model prog w) h (bindSpecial (.ref fI) self) (.ref fI, [self])) (few : rest.length ≤ sizeLine)
    (hq : codeAny (model prog w) (A.under (.builtin "type.__call__" ⟨.ref C :: rest, kw⟩)) (.call (.ref fI) ⟨.ref (h.objs.size + 1) :: rest, kw⟩) (W.InitBack (h.objs.size + 1) R)
      ⟨(h.push (W.kdv_tup rest)).push (excO C h.objs.size), g, d, t, os⟩) :
    codeAny (model prog w) A (.call (.ref C) ⟨rest, kw⟩) R ⟨h, g, d, t, os⟩ := by
  have f1 := tc_lookup
  have f2 := tc_bind (.ref C)
  have isTy : (⟨h, g, d, t, os⟩ : Shared).TypeIs (.ref C) "type" := ⟨_, at_C, rfl⟩
  refine codeAny_of_tree ?_
  show wpAny _ _ (callAny (.ref C) _) _ _ _
  repeat (any_goals (first | assumption | with_reducible refine wpAny_loadPart_at at_C ?_ | wp_step))
  refine ⟨rfl, ?_⟩
  refine codeAny_call_builtin_at (Code.quiet_builtin _ (by decide +kernel)) entry_typeCall (wpAny_check_type_call_sub at_C (kwTypeCall F same at_C hi hb few ?_))
  refine codeAny_mono hq fun r s' z => ?_
  match r, z with
  | .error e, z => exact z
  | .ok (.ret v), z => exact z
  | .ok .next, z => exact z
  | .ok .brk, z => exact z
  | .ok .cont, z => exact z
end
end HandSPX
end PySem

namespace K1
open PySem PySem.Spec PyProof.Rows L2
open PySem.W (Frag)
/-! ### the text of __init__ -/
def eA (p1 p2 p3 : Pos) : Arguments := { posonlyargs := [], args := [{ arg := "self", annotation := none, pos := p1 }, { arg := "value", annotation := none, pos := p2 }], vararg := none, kwonlyargs := [], kw_defaults := [], kwarg := none, defaults := [.Constant .none 0 p3] }
def eB (q1 q2 q3 q4 : Pos) : List Stmt := [.Assign [.Attribute (.Name "self" q1) "value" q2] (.Name "value" q3) q4]
def eS : Scope := { kind := .function, names := [(PySem.Str.ofString "self", .local), (PySem.Str.ofString "value", .local)], isGenerator := false, isCoroutine := false, more := [] }
/-- what the written part says of an error's class at C, and of its __init__ at fI -/
structure ErrC (K : Frag) (mg : Str → Option Value) (x : Str) (C fI : Addr) : Prop where
  gC : mg x = some (.ref C)
  ox : OexC K C
  ga : PySem.W.findIn K (.ref C) "__getattribute__" = some (some (.builtin "BaseException.__getattribute__"))
  gg : PySem.W.findIn K (.ref C) "__getattr__" = some none
  hd : PySem.W.hasDictIn K C = true
  noN : PySem.W.findIn K (.ref C) "value" = some none
  iC : PySem.W.findIn K (.ref C) "__init__" = some (some (.ref fI))
  tI : PySem.W.typeIn K (.ref fI) = some (.type "function")
  fn : ∃ (oc : Value) (od : Option Addr) (kV doc pm : Value) (an : Option Addr) (cdv ct : Value) (osl : Array (Option Value)) (p1 p2 p3 q1 q2 q3 q4 : Pos) (q : Str) (T : Addr) (o : Obj) (n : Nat),
    K.lookup fI = some ⟨oc, od, .func (PySem.W.fnOf "__init__" q (eA p1 p2 p3) (eB q1 q2 q3 q4) eS (.ref T) kV doc pm an cdv ct), osl⟩ ∧ PySem.W.codeIn K cdv q = true ∧ K.lookup T = some o ∧ o.data = .seq #[.none] n
/-- how the one value may be handed: by place, by name, not at all -/
inductive Hand : List Value → List (Str × Value) → Value → Prop where
  | place (u : Value) : Hand [u] [] u
  | name (u : Value) : Hand [] [("value", u)] u
  | not : Hand [] [] .none
theorem hand_few {us : List Value} {kw : List (Str × Value)} {u : Value} (h : Hand us kw u) : us.length ≤ sizeLine := by
  have e : us.length ≤ 1 := by cases h <;> simp
  rw [sizeLine_eq]
  omega
theorem hand_binds {K : Frag} {s : Shared} {T e : Addr} {o : Obj} {n : Nat} {kV doc pm cdv ct u : Value} {an : Option Addr} {p1 p2 p3 q1 q2 q3 q4 : Pos} {q : Str} {us : List Value} {kw : List (Str × Value)} (X : K.In s.heap) (lT : K.lookup T = some o) (oT : o.data = .seq #[.none] n)
    (h : Hand us kw u) : BindsTo s (PySem.W.fnOf "__init__" q (eA p1 p2 p3) (eB q1 q2 q3 q4) eS (.ref T) kV doc pm an cdv ct) ⟨.ref e :: us, kw⟩ [("self", .ref e), ("value", u)] := by
  refine BindsTo.of_looks fun M => ?_
  cases h with
  | place u => exact looks_items X lT oT (.of_pure rfl)
  | name u => exact looks_items X lT oT (.of_pure rfl)
  | not => exact looks_items X lT oT (.of_pure rfl)
/-- what __init__ leaves: the exception at x has its own dict at dx, the value stands in it -/
structure Inited (h h' : Heap) (x C dx t1 : Addr) (v : Value) : Prop where
  keep : ∀ b o, b ≠ x → h.get? b = some o → h'.get? b = some o
  obj : h'.get? x = some { cls := .ref C, dict := some dx, data := .fields #[.ref t1, .none, .none, .none, .bool false, .none] }
  dbig : h.objs.size ≤ dx
  dne : dx ≠ x
  ns : h'.Ns1 dx (fun y => if y = "value" then some v else none)
section
variable {prog : Program} {w : World} {A : Around} {R : Result → Shared → Prop} {s : Shared} {K : Frag} {mg : Str → Option Value} {nm : Str} {C fI : Addr}
theorem local_at {M : Model} {s : Shared} {name : Str} {scope : Scope} {L a : Addr} {cd : Value} {m : Str → Option Value} {x : Str} {pos : Pos} {v : Value} {Q E : Value → Shared → Prop} {B : Around} (hn : s.heap.Ns L m) (hv : m x = some v) (h : Q v s)
    (hk : scope.kind = .function := by rfl) (hl : (envOfC name scope L a cd).kindOf x = some .local := by rfl) (hd : (x == ("__debug__" : Str)) = false := by decide) :
    wpAny M B (eval (.Name x pos) (envOfC name scope L a cd)) Q E s := wpAny_Name (wpAny_loadName_local hk hl hn hv h) hd
theorem err_init (T : ErrC K mg nm C fI) {x t0 : Addr} {us : List Value} {kw : List (Str × Value)} {v : Value} (hh : Hand us kw v) (X : K.In s.heap) (lim : s.heap.NoLimit) (hx : s.heap.get? x = some (PySem.HandSPX.excO C t0)) (room : A.depth < recursionLimit)
    (hq : ∀ h' tk dx, Inited s.heap h' x C dx t0 v → R (.ok (.ret .none)) { s with heap := h', toks := tk }) :
    codeAny (model prog w) A (.call (.ref fI) ⟨.ref x :: us, kw⟩) R s := by
  obtain ⟨oc, od, kV, doc, pm, an, cdv, ct, osl, p1, p2, p3, q1, q2, q3, q4, q, D, oD, nD, ho, hcd, lD, dD⟩ := T.fn
  obtain ⟨n2, qn, N, bs, bm, sn, sub, ab, col, dd, k0, k1, k2, k3, k5, hC, hbm⟩ := T.ox.cls
  have hcl : PySem.W.clsIn K C = some { name := n2, bases := bs, mro := .ref C :: bm, ns := N, qualname := qn, hasDict := true, slotNames := sn, subclasses := sub, abstract := ab, collection := col, hasDel := false } := by
    unfold PySem.W.clsIn
    rw [hC] <;> rfl
  refine Att.call_fn (binds := [("self", .ref x), ("value", v)]) X lim ho hcd room (hand_binds X lD dD hh) (by first | rfl | decide | with_unfolding_all rfl) (fun s1 IC => ?_) rfl rfl rfl
  obtain ⟨h1, tk1, rfl⟩ := IC.toInCall.same
  have keep : ∀ b o, s.heap.get? b = some o → h1.get? b = some o := IC.toInCall.keep
  have hn := IC.toInCall.ns
  have X1 : K.In h1 := X.keeps keep
  have hx1 := keep _ _ hx
  show wpAny _ _ (execs _ _) _ _ _
  refine wpAny_execs_cons (plainObj_wpAny_Assign_Attribute ?_)
  refine local_at (v := v) hn (by first | rfl | with_unfolding_all rfl | kernel_rfl) (local_at (v := .ref x) hn (by first | rfl | with_unfolding_all rfl | kernel_rfl) ?_)
  refine PySem.W.set_plain X1 (ox := PySem.HandSPX.excO C t0) (od := none) ⟨hx1, rfl, rfl, trivial⟩ T.ox.sa ?_
  refine PySem.HandSPX.exc_osa X1 hx1 hcl (show PySem.HandSPX.refsVE (.ref C :: bm) = true from hbm) rfl T.noN (fun h3 tk3 dx k3 dn dne hx3 hn3 => ?_)
  show wpAny _ _ (execs _ _) _ _ _
  have z : s.heap.objs.size < h1.objs.size := hn.lt
  exact wpAny_execs_nil (hq h3 tk3 dx ⟨fun b o hb e => k3 b o hb (keep b o e), hx3, Nat.le_of_lt (Nat.lt_of_lt_of_le z dn), dne, hn3⟩)
/-- a made error: at e, its dict at d -/
structure Made (h h' : Heap) (e C d : Addr) (v : Value) : Prop where
  keep : ∀ b o, h.get? b = some o → h'.get? b = some o
  new : h.objs.size ≤ e
  obj : ∃ t1 : Addr, h'.get? e = some { cls := .ref C, dict := some d, data := .fields #[.ref t1, .none, .none, .none, .bool false, .none] }
  dbig : h.objs.size ≤ d
  dne : d ≠ e
  ns : h'.Ns1 d (fun y => if y = "value" then some v else none)
theorem err_made (T : ErrC K mg nm C fI) {us : List Value} {kw : List (Str × Value)} {v : Value} (hh : Hand us kw v) (X : K.In s.heap) (lim : s.heap.NoLimit) (room : A.depth + 1 < recursionLimit)
    (hq : ∀ h' tk e d, Made s.heap h' e C d v → R (.ok (.ret (.ref e))) { s with heap := h', toks := tk }) :
    codeAny (model prog w) A (.call (.ref C) ⟨us, kw⟩) R s := by
  obtain ⟨n2, qn, N, bs, bm, sn, sub, ab, col, dd, k0, k1, k2, k3, k5, hC, hbm⟩ := T.ox.cls
  obtain ⟨hp, g, dr, tk, os⟩ := s
  have keep : ∀ b o, hp.get? b = some o → ((hp.push (PySem.W.kdv_tup us)).push (PySem.HandSPX.excO C hp.objs.size)).get? b = some o := fun b o e => Heap.get?_push_of_some _ (Heap.get?_push_of_some _ e)
  have at_e : ((hp.push (PySem.W.kdv_tup us)).push (PySem.HandSPX.excO C hp.objs.size)).get? (hp.objs.size + 1) = some (PySem.HandSPX.excO C hp.objs.size) := by heap_get
  refine PySem.HandSPX.kwCall F.excBase_ValueError (fun Y => PySem.HandSPX.refsVE_contains Y bm hbm) (X _ _ hC) (PySem.W.looks_findIn X T.iC) (fun self => PySem.W.bind_fn X self T.tI) (hand_few hh) ?_
  refine err_init (s := ⟨(hp.push (PySem.W.kdv_tup us)).push (PySem.HandSPX.excO C hp.objs.size), g, dr, tk, os⟩) T hh (X.keeps keep) (lim.keeps keep) at_e room fun h' tk' dx M => ?_
  have old : ∀ b o, hp.get? b = some o → h'.get? b = some o := fun b o e => M.keep b o (Nat.ne_of_lt (Nat.lt_succ_of_lt (Heap.lt_size e))) (keep b o e)
  have z : hp.objs.size + 1 + 1 ≤ dx := by
    have q := M.dbig
    simp only [Heap.size_push] at q
    exact q
  exact ⟨rfl, hq h' tk' (hp.objs.size + 1) dx ⟨old, Nat.le_succ _, ⟨_, M.obj⟩, Nat.le_trans (Nat.le_trans (Nat.le_succ _) (Nat.le_succ _)) z, M.dne, M.ns⟩⟩
end
/-! ### errors as values, over the abstract heap -/
/-- at e an error of the class at C whose value is v -/
def ErrAt (H : Hp) (C e : Addr) (v : V) : Prop := ∃ d, H e = some (exo e C (some d)) ∧ H d = some (exd d [(("value" : Str), v)])
theorem ErrAt.same {H H' : Hp} {C e : Addr} {v : V} (k : Same H H') (h : ErrAt H C e v) : ErrAt H' C e v := by
  obtain ⟨d, h1, h2⟩ := h
  exact ⟨d, k _ _ h1, k _ _ h2⟩
section
variable {X : Cx} {pins : List (Addr × Obj)} {σ : L2.St} {H : Hp} {s : Shared} {nm : Str} {C fI : Addr}
theorem one_rel {v : V} {u : Value} (r : RelV v u) (f : Str) : RelO (List.lookup f [(("value" : Str), v)]) (if f = "value" then some u else none) := by
  rw [lookup_put]
  by_cases h : f = "value"
  · rw [if_pos h, if_pos h]
    exact r
  · rw [if_neg h, if_neg h]
    trivial
theorem track_err {h' : Heap} {tk : Nat} {e d : Addr} {v : V} {u : Value} (I : Inv X pins σ H s) (M : Made s.heap h' e C d u) (r : RelV v u) :
    Inv X pins σ (upd (upd H d (exd d [(("value" : Str), v)])) e (exo e C (some d))) { s with heap := h', toks := tk } := by
  obtain ⟨t1, obj⟩ := M.obj
  have he : H e = none := I.hok.fresh M.new
  have hd : H d = none := I.hok.fresh M.dbig
  have ne : ∀ {b : Addr} {o : Obj}, s.heap.get? b = some o → b ≠ e ∧ b ≠ d := fun {b o} q => ⟨Nat.ne_of_lt (Nat.lt_of_lt_of_le (Heap.lt_size q) M.new), Nat.ne_of_lt (Nat.lt_of_lt_of_le (Heap.lt_size q) M.dbig)⟩
  have old : ∀ {b : Addr} {o : HO}, H b = some o → (upd (upd H d (exd d [(("value" : Str), v)])) e (exo e C (some d))) b = some o := fun {b o} q => by
    rw [upd_ne (ne_of_none q he), upd_ne (ne_of_none q hd)]
    exact q
  have U : Un X.fs [] H (upd (upd H d (exd d [(("value" : Str), v)])) e (exo e C (some d))) s.heap h' := {
    keep := fun b o q _ _ _ => M.keep b o q
    slot := fun b o q _ _ _ => ⟨o.slots, M.keep b o q⟩
    free := fun b o q n _ => by
      rw [upd_ne (ne q).1, upd_ne (ne q).2]
      exact n
    there := fun b o q _ => ⟨o, M.keep b o q⟩
    tups := fun b xs q => old q
    frzs := fun b o u q => old q
    tbls := fun b ps q => ⟨#[], by rw [old q]; simp⟩ }
  refine I.un (t' := tk) U fun b o q => ?_
  by_cases hb : b = e
  · subst hb
    rw [upd_same] at q
    injection q with q
    rw [← q]
    exact exo_ok obj
  · rw [upd_ne hb] at q
    by_cases hbd : b = d
    · subst hbd
      rw [upd_same] at q
      injection q with q
      rw [← q]
      exact exd_ok M.ns (one_rel r)
    · rw [upd_ne hbd] at q
      exact (I.hok b o q).stay (fun c v _ z => M.keep c v z) (fun c z => old z) fun c xs z => old z
/-- what is wanted of the making of an error with the value v -/
def Makes (C : Addr) (v : V) (H : Hp) (Q : VK) : Prop := ∀ H' e, Same H H' → H e = none → ErrAt H' C e v → Q (.ref e) H'
theorem run_err (T : ErrC X.K X.mg nm C fI) (hr : Room 1 X.A) {us : List Value} {kw : List (Str × Value)} {v : V} {u : Value} {Q : VK} (hh : Hand us kw u) (r : RelV v u) (I : Inv X pins σ H s) (h : Makes C v H Q) :
    wpAny (model X.prog X.w) X.A (call (.ref C) us kw) (EP X pins σ Q) X.xe s := by
  refine wpAny_call (err_made T hh I.kIn I.nolimit (by have := hr.dp; omega) fun h' tk e d M => ?_)
  have J := track_err (tk := tk) I M r
  have he : H e = none := I.hok.fresh M.new
  have hd : H d = none := I.hok.fresh M.dbig
  refine ⟨.ref e, _, J, rfl, h _ e (fun b o q => ?_) he ⟨d, upd_same, ?_⟩⟩
  · rw [upd_ne (ne_of_none q he), upd_ne (ne_of_none q hd)]
    exact q
  · rw [upd_ne M.dne, upd_same]
variable {p pos kpos : Pos} {a : Expr} {ta : TE}
/-- C(e) -/
theorem pe_err1 (T : ErrC X.K X.mg nm C fI) (hr : Room 1 X.A) (ha : PE X a ta) (hg : Gl X nm := by rfl) (hdb : (nm == ("__debug__" : Str)) = false := by decide)
    (he : starEach (a :: []) X.env = (false, eval a X.env) :: starEach [] X.env := by rfl) : PE X (.Call (.Name nm p) [a] [] pos) (fun σ H Q => ta σ H fun v H1 => Makes C v H1 Q) := by
  refine ⟨fun pins s σ H Q I h => wpAny_Call_Name_kw (ld_glob I hg T.gC ?_ hdb)⟩
  refine PySem.W.callWith_K (h₀ := X.base) I.ok.mod.kin T.ox.kC ?_ he (by rfl)
  have P := pa_cons ha pa_nil he
  refine thn (P.run pos pins s σ H (fun vs H1 => match vs with | [v] => Makes C v H1 Q | _ => False) I h) fun us s1 hh => ?_
  obtain ⟨vs, H1, I1, r1, q1⟩ := hh
  match vs, us, r1, q1 with
  | [v], _, .cons rv .nil, q1 => exact ⟨I1.kIn, run_err T hr (.place _) rv I1 q1⟩
/-- C(value=e) -/
theorem pe_errK (T : ErrC X.K X.mg nm C fI) (hr : Room 1 X.A) (ha : PE X a ta) (hg : Gl X nm := by rfl) (hdb : (nm == ("__debug__" : Str)) = false := by decide)
    (hall : (backToKw pos (keywordEach [⟨some "value", a, kpos⟩] X.env)).all (·.1.isSome) = true := by rfl) (hks : (backToKw pos (keywordEach [⟨some "value", a, kpos⟩] X.env)).filterMap (·.1) = [("value" : Str)] := by rfl)
    (hpl : ((backTo pos (starEach [] X.env)).any (·.1) || (backToKw pos (keywordEach [⟨some "value", a, kpos⟩] X.env)).any (·.1.isNone)) = false := by rfl) :
    PE X (.Call (.Name nm p) [] [⟨some "value", a, kpos⟩] pos) (fun σ H Q => ta σ H fun v H1 => Makes C v H1 Q) := by
  refine ⟨fun pins s σ H Q I h => wpAny_Call_Name_kw (ld_glob I hg T.gC ?_ hdb)⟩
  refine PySem.W.callWith_KW0 (h₀ := X.base) I.ok.mod.kin T.ox.kC hall ?_ hpl
  have P := pk_cons (nm := some "value") (kpos := kpos) ha pk_nil
  refine thn (P.run pos pins s σ H (fun vs H1 => match vs with | [v] => Makes C v H1 Q | _ => False) I h) fun us s1 hh => ?_
  obtain ⟨vs, H1, I1, r1, q1⟩ := hh
  rw [hks]
  match vs, us, r1, q1 with
  | [v], _, .cons rv .nil, q1 => exact ⟨I1.kIn, run_err T hr (.name _) rv I1 q1⟩
/-- C() -/
theorem pe_err0 (T : ErrC X.K X.mg nm C fI) (hr : Room 1 X.A) (hg : Gl X nm := by rfl) (hdb : (nm == ("__debug__" : Str)) = false := by decide) :
    PE X (.Call (.Name nm p) [] [] pos) (fun σ H Q => Makes C .non H Q) := by
  refine ⟨fun pins s σ H Q I h => wpAny_Call_Name_kw (ld_glob I hg T.gC ?_ hdb)⟩
  exact PySem.W.callWith_K0 I.kIn T.ox.kC (run_err (v := .non) T hr .not (show RelV .non Value.none from rfl) I h)
/-- e.value of an error -/
def tVal (K : Frag) (ta : TE) : TE := fun σ H Q => ta σ H fun x H1 => ∃ (C e : Addr) (v : V), x = .ref e ∧ ErrAt H1 C e v ∧ XfC K C ∧ PySem.W.findIn K (.ref C) "value" = some none ∧ Q v H1
theorem pe_val (ha : PE X a ta) (hb : attributeBase a "value" X.env (eval a X.env) = eval a X.env := by rfl) : PE X (.Attribute a "value" pos) (tVal X.K ta) := by
  refine ⟨fun pins s σ H Q I h => attr_of hb (thn (ha.run pins s σ H _ I h) fun u s1 hh => ?_)⟩
  obtain ⟨x, H1, I1, rx, C, e, v, rfl, ⟨d, e1, e2⟩, T, hno, q⟩ := hh
  obtain rfl : u = Value.ref e := rx
  obtain ⟨t1, ho⟩ := exo_at I1.hok e1
  obtain ⟨mA, hns, rel⟩ := exd_at I1.hok e2
  obtain ⟨od, hod, look⟩ := lookIn_ns hns
  have l : List.lookup ("value" : Str) [(("value" : Str), v)] = some v := by rw [lookup_put, if_pos rfl]
  obtain ⟨u, hu, ru⟩ := RelO.some_of (v := v) (o := mA "value") (by rw [← l]; exact rel "value")
  have J : PySem.W.InstAt s1.heap e { cls := .ref C, dict := some d, data := .fields #[.ref t1, .none, .none, .none, .bool false, .none] } C (some od) := ⟨ho, rfl, rfl, hod⟩
  exact PySem.HandSPX.exc_get I1.kIn J T.ga T.gg T.exC (PySem.W.findObj_own T.hdC hno rfl (by rw [look, hu])) (handed_of ru) ⟨v, H1, I1.tok _, ru, q⟩
end
end K1

namespace K1
open PySem PySem.Spec PyProof.Rows L2
open PySem.W (Frag)
/-- at e an error of the class at C, with fields of its own or without -/
def IsErr (H : Hp) (C e : Addr) : Prop := (∃ d fs, H e = some (exo e C (some d)) ∧ H d = some (exd d fs)) ∨ H e = some (ExO (.ref C) e)
theorem ErrAt.is {H : Hp} {C e : Addr} {v : V} (h : ErrAt H C e v) : IsErr H C e := by
  obtain ⟨d, h1, h2⟩ := h
  exact .inl ⟨d, _, h1, h2⟩
theorem IsErr.same {H H' : Hp} {C e : Addr} (k : Same H H') (h : IsErr H C e) : IsErr H' C e := by
  rcases h with ⟨d, fs, h1, h2⟩ | h
  · exact .inl ⟨d, fs, k _ _ h1, k _ _ h2⟩
  · exact .inr (k _ _ h)
theorem is_clsIn {K : Frag} {C : Addr} (h : PySem.W.hasDictIn K C = true) : (PySem.W.clsIn K C).isSome = true := by
  obtain ⟨cd, hc, _⟩ := PySem.W.any_some h
  rw [hc]
  rfl
section
variable {X : Cx} {C : Addr} {nm : Str} {p pos : Pos}
theorem call_isErr : CallR X (.builtin "isinstance") (fun xs H Q => ∃ (e C : Addr) (c : V) (cv : Value) (b : Bool), xs = [.ref e, c] ∧ IsErr H C e ∧ ExcC X.K C ∧ ClsV c cv ∧ PySem.W.kitOne X.K (.ref C) cv = some b ∧ Q (.bl b) H) := by
  intro pins s σ H xs us Q I r h
  obtain ⟨e, C, c, cv, b, rfl, he, T, hc, hk, q⟩ := h
  match us, r with
  | _, .cons rx (.cons rt .nil) =>
    cases rx
    have ec := hc.eq rt
    subst ec
    have fin : ∀ tk : Nat, EP X pins σ Q (.bool b) { s with toks := tk } := fun tk => ⟨.bl b, H, I.kept (t' := tk) fun _ _ z => z, rfl, q⟩
    rcases he with ⟨d, fs, h1, h2⟩ | h1
    · obtain ⟨t1, ho⟩ := exo_at I.hok h1
      obtain ⟨mA, hns, _⟩ := exd_at I.hok h2
      obtain ⟨od, hod, _⟩ := lookIn_ns hns
      have J : PySem.W.InstAt s.heap e { cls := .ref C, dict := some d, data := .fields #[.ref t1, .none, .none, .none, .bool false, .none] } C (some od) := ⟨ho, rfl, rfl, hod⟩
      exact PySem.W.kia_one (PySem.W.kitx_exc (is_clsIn T.hd) T.hg T.hk T.hs T.ha T.hn T.ht T.hm) I.kIn J hk (fun z => nomatch z) fun tk => fin tk
    · obtain ⟨⟨oe, vs, ho, hz, hv, _⟩, _, _⟩ := (show ObjOk X.prog X.w H s.heap e (ExO (.ref C) e) from I.hok e _ h1)
      have J : PySem.W.InstAt s.heap e oe C none := by
        obtain ⟨oc, od, oda, osl⟩ := oe
        obtain ⟨z1, z2⟩ := hz
        dsimp only at z1 z2 hv
        subst z1 z2 hv
        exact ⟨ho, rfl, rfl, trivial⟩
      exact PySem.W.kia_one (PySem.W.kitx_exc (is_clsIn T.hd) T.hg T.hk T.hs T.ha T.hn T.ht T.hm) I.kIn J hk (fun z => nomatch z) fun tk => fin tk
/-- C() of an own class of errors without own __init__ -/
theorem pe_bare {bmB : List Value} {B newId initId : String} (F : ExcBaseFacts B newId initId bmB) (q : PySem.W.excIn X.K C bmB newId = true) (gC : X.mg nm = some (.ref C)) (kC : PySem.W.keepIn X.K (.ref C) = true) (hg : Gl X nm := by rfl)
    (hdb : (nm == ("__debug__" : Str)) = false := by decide) : PE X (.Call (.Name nm p) [] [] pos) (fun σ H Q => ∀ a, H a = none → Q (.ref a) (upd H a (ExO (.ref C) a))) := by
  refine ⟨fun pins s σ H Q I h => wpAny_Call_Name_kw (ld_glob I hg gC ?_ hdb)⟩
  refine PySem.W.callWith_K0 I.kIn kC ?_
  show wpAny _ _ (call (.ref C) []) _ _ _
  obtain ⟨bm, N, nm', qn, bs, hdct, sn, sub, ab, col, dd, k0, k1, k2, k3, k5, mN, hC, hN, hni, T⟩ := exc_obj I.kIn q
  refine wpAny_call_exc_subT F T hC hN hni (fun h' a hm => ?_) (by show 0 ≤ sizeLine; exact Nat.zero_le _)
  have hn : H a = none := I.hok.gone hm.new
  obtain ⟨t, ht, _, _⟩ := hm.there
  exact ⟨.ref a, upd H a (ExO (.ref C) a), I.laidN hm.keeps hm.new hn (exO_ok ht ⟨rfl, rfl⟩ rfl rfl rfl (show 4 < 6 by decide)), rfl, h a hn⟩
/-- i ** j of great numbers -/
theorem op_powB : OpR X (binaryOp .Pow) (rI (fun i j => 0 ≤ j ∧ (Builtin.Int.intBits i : Int) * j ≤ 2 ^ 27) fun i j => .int (i ^ j.toNat)) :=
  opI fun i j t u s Q E c q => PyProof.Rows.pow_int c.1 c.2 q
end
end K1

namespace XE
open PySem PySem.Spec PyProof.Rows L2
open PySem.W (Frag)
/-! ### errors that are raised, caught and kept -/
/-- an error of a class, its own dict -/
def exk (a : Addr) (cls : Value) (d : Option Addr) : HO := .ext fun h => ∃ (oe : Obj) (vs : Array Value), h.get? a = some oe ∧ Zc cls d oe ∧ oe.data = .fields vs
theorem exk_ok {P : Program} {w : World} {H : Hp} {h : Heap} {a : Addr} {cls : Value} {d : Option Addr} {oe : Obj} {vs : Array Value} (e : h.get? a = some oe) (z : Zc cls d oe) (q : oe.data = .fields vs) : ObjOk P w H h a (exk a cls d) :=
  ⟨⟨oe, vs, e, z, q⟩, ⟨oe, e⟩, fun _ _ ⟨o', v', q', r'⟩ k => ⟨o', v', k o' q', r'⟩⟩
/-- the value of an error -/
def vdict (v : V) : HO := .xd [(("value" : Str), v)]
/-- at e an error of the class at C whose value is v -/
def KErr (H : Hp) (C e : Addr) (v : V) : Prop := ∃ d, H e = some (exk e (.ref C) (some d)) ∧ H d = some (vdict v)
theorem KErr.same {H H' : Hp} {C e : Addr} {v : V} (h : KErr H C e v) (k : Same H H') : KErr H' C e v := by
  obtain ⟨d, h1, h2⟩ := h
  exact ⟨d, k _ _ h1, k _ _ h2⟩
section
variable {X : Cx} {pins : List (Addr × Obj)} {σ : L2.St} {H : Hp} {s : Shared} {nm : Str} {C fI : Addr} {p pos : Pos} {a : Expr} {ta : TE}
/-- C(e), to be raised -/
theorem pmk_err (T : K1.ErrC X.K X.mg nm C fI) (rs : Raises X (.ref C)) (hr : Room 1 X.A) (ha : PE X a ta) (hg : Gl X nm := by rfl) (hdb : (nm == ("__debug__" : Str)) = false := by decide)
    (he : starEach (a :: []) X.env = (false, eval a X.env) :: starEach [] X.env := by rfl) : PMk X (.Call (.Name nm p) [a] [] pos) (fun σ H Q => ta σ H fun v H1 => ∀ d, H1 d = none → Q (.ref C) (some d) (upd H1 d (vdict v))) := by
  intro pins s σ H Q I h
  refine wpAny_Call_Name_kw (ld_glob I hg T.gC ?_ hdb)
  refine PySem.W.callWith_K (h₀ := X.base) I.ok.mod.kin T.ox.kC ?_ he (by rfl)
  have P := pa_cons ha pa_nil he
  refine thn (P.run pos pins s σ H (fun vs H1 => match vs with | [v] => ∀ d, H1 d = none → Q (.ref C) (some d) (upd H1 d (vdict v)) | _ => False) I h) fun us s1 hh => ?_
  obtain ⟨vs, H1, I1, r1, q1⟩ := hh
  match vs, us, r1, q1 with
  | [v], [u], .cons rv .nil, q1 =>
    refine ⟨I1.kIn, ?_⟩
    have lim := I1.nolimit
    obtain ⟨hp, g, dr, tk, os⟩ := s1
    refine wpAny_call (K1.err_made T (.place _) I1.kIn lim (by have := hr.dp; omega) fun h' tk' e d M => ?_)
    obtain ⟨t1, obj⟩ := M.obj
    have dns := M.ns
    obtain ⟨G, G1, G2⟩ := restrict h' fun b => decide (b ≠ e)
    have same : ∀ b, b ≠ e → G.get? b = h'.get? b := fun b hb => G1 b (decide_eq_true hb)
    have none_e : G.get? e = none := G2 e (by simp)
    have was : ∀ b o, hp.get? b = some o → G.get? b = some o := fun b o z => (same b (Nat.ne_of_lt (Nat.lt_of_lt_of_le (Heap.lt_size z) M.new))).trans (M.keep b o z)
    have it : ObjOk X.prog X.w (upd H1 d (vdict v)) G d (vdict v) := ⟨_, dns.at (fun o z => (same d M.dne).trans z), K1.one_rel rv⟩
    have J : Inv X pins σ (upd H1 d (vdict v)) ⟨G, g, dr, tk', os⟩ := I1.laid (t' := tk') was M.dbig it
    refine ⟨e, _, _, ⟨G, g, dr, tk', os⟩, _, .ref C, some d, rfl, J, fun b o z => ?_, none_e, obj, ⟨rfl, rfl⟩, rfl, rfl, ?_, rfl, I1.bare, rs, q1 d (I1.hok.fresh M.dbig)⟩
    · by_cases hb : b = e
      · rw [hb] at z
        have z' : G.get? e = some o := z
        rw [none_e] at z'
        cases z'
      · exact (same b hb).symm.trans z
    · rw [upd_ne M.dne.symm]
      exact I1.hok.fresh M.new
/-- raise C(e) -/
theorem ps_raiseE {W : WX} {pos2 : Pos} (hc : X.calm = true) (T : K1.ErrC X.K X.mg nm C fI) (rs : Raises X (.ref C)) (hr : Room 1 X.A) (tk : Takes X W) (ha : PE X a ta) (hg : Gl X nm := by rfl) (hdb : (nm == ("__debug__" : Str)) = false := by decide)
    (he : starEach (a :: []) X.env = (false, eval a X.env) :: starEach [] X.env := by rfl) : PS X (.Raise (some (.Call (.Name nm p) [a] [] pos)) none pos2) (fun _ σ H => ta σ H fun v H1 => ∀ d, H1 d = none → W (.ref C) (some d) σ (upd H1 d (vdict v))) :=
  ps_raise hc tk (pmk_err T rs hr ha hg hdb he)
/-- e.value of a kept error -/
theorem pe_valK (ha : PE X a ta) (hb : attributeBase a "value" X.env (eval a X.env) = eval a X.env := by rfl) : PE X (.Attribute a "value" pos) (fun σ H Q => ta σ H fun x H1 => ∃ (C e : Addr) (v : V), x = .ref e ∧ KErr H1 C e v ∧ XfC X.K C ∧ PySem.W.findIn X.K (.ref C) "value" = some none ∧ Q v H1) := by
  refine ⟨fun pins s σ H Q I h => attr_of hb (thn (ha.run pins s σ H _ I h) fun u s1 hh => ?_)⟩
  obtain ⟨x, H1, I1, rx, C, e, v, rfl, ⟨d, e1, e2⟩, T, hno, q⟩ := hh
  obtain rfl : u = Value.ref e := rx
  obtain ⟨⟨oe, vs, ho, hz, hdt⟩, _, _⟩ := (show ObjOk X.prog X.w H1 s1.heap e (exk e (.ref C) (some d)) from I1.hok e _ e1)
  obtain ⟨mA, dns, rel⟩ := (show ObjOk X.prog X.w H1 s1.heap d (vdict v) from I1.hok d _ e2)
  obtain ⟨od, hod, look⟩ := lookIn_ns dns
  have l : List.lookup ("value" : Str) [(("value" : Str), v)] = some v := by rw [lookup_put, if_pos rfl]
  obtain ⟨u, hu, ru⟩ := RelO.some_of (v := v) (o := mA "value") (by rw [← l]; exact rel "value")
  have J : PySem.W.InstAt s1.heap e oe C (some od) := ⟨ho, hz.1, by unfold PySem.W.notCls; rw [hdt] <;> rfl, by rw [hz.2]; exact hod⟩
  exact PySem.HandSPX.exc_get I1.kIn J T.ga T.gg T.exC (PySem.W.findObj_own T.hdC hno rfl (by rw [look, hu])) (handed_of ru) ⟨v, H1, I1.tok _, ru, q⟩
/-- isinstance(e, c) of a kept error -/
theorem call_isK : CallR X (.builtin "isinstance") (fun xs H Q => ∃ (e C : Addr) (v c : V) (cv : Value) (b : Bool), xs = [.ref e, c] ∧ KErr H C e v ∧ ExcC X.K C ∧ ClsV c cv ∧ PySem.W.kitOne X.K (.ref C) cv = some b ∧ Q (.bl b) H) := by
  intro pins s σ H xs us Q I r h
  obtain ⟨e, C, v, c, cv, b, rfl, ⟨d, h1, h2⟩, T, hc, hk, q⟩ := h
  match us, r with
  | _, .cons rx (.cons rt .nil) =>
    cases rx
    have ec := hc.eq rt
    subst ec
    have fin : ∀ tk : Nat, EP X pins σ Q (.bool b) { s with toks := tk } := fun tk => ⟨.bl b, H, I.kept (t' := tk) fun _ _ z => z, rfl, q⟩
    obtain ⟨⟨oe, vs, ho, hz, hdt⟩, _, _⟩ := (show ObjOk X.prog X.w H s.heap e (exk e (.ref C) (some d)) from I.hok e _ h1)
    obtain ⟨mA, dns, _⟩ := (show ObjOk X.prog X.w H s.heap d (vdict v) from I.hok d _ h2)
    obtain ⟨od, hod, _⟩ := lookIn_ns dns
    have J : PySem.W.InstAt s.heap e oe C (some od) := ⟨ho, hz.1, by unfold PySem.W.notCls; rw [hdt] <;> rfl, by rw [hz.2]; exact hod⟩
    exact PySem.W.kia_one (PySem.W.kitx_exc (K1.is_clsIn T.hd) T.hg T.hk T.hs T.ha T.hn T.ht T.hm) I.kIn J hk (fun z => nomatch z) fun tk => fin tk
end
end XE

namespace XE
open PySem PySem.Spec PyProof.Rows L2
open PySem.W (Frag)
/-! ### try .. except X as n (some clauses): the caught error is tracked, and stays -/
abbrev Suite := Addr → Value → Option Addr → TS
/-- what the clauses wish of an error of the body; slot i is the name's -/
def wKeep (K : Frag) (Wout : WX) (D : Ends) : List (Value × Nat × Suite) → WX
  | [] => Wout
  | (c, i, ts) :: more => fun cls d σ H => ∃ b, PySem.W.exmOne K cls c = some b ∧ (b = false → wKeep K Wout D more cls d σ H) ∧
      (b = true → ∀ e, H e = none → ts e cls d { nx := fun σ1 H1 => D.nx (σ1.set i none) H1, rt := D.rt, bk := fun σ1 H1 => D.bk (σ1.set i none) H1, ct := fun σ1 H1 => D.ct (σ1.set i none) H1 } (σ.set i (some (.ref e))) (upd H e (exk e cls d)))
/-- the clauses and their readings -/
inductive Clauses (X : Cx) : List ExceptHandler → List (Value × Nat × Suite) → Prop
  | none : Clauses X [] []
  | one {x n : Str} {c : Value} {i : Nat} {ts : Suite} {b₀ : Stmt} {suite : List Stmt} {np cpos : Pos} {more : List ExceptHandler} {l : List (Value × Nat × Suite)} (cn : Names X x c) (ix : X.N[i]? = some n) (loc : X.env.kindOf n = some .local)
      (su : ∀ (e : Addr) (cls : Value) (d : Option Addr) (pn : List (Addr × Obj)), PSs (X.suite e pn) (b₀ :: suite) (ts e cls d)) (m : Clauses X more l) : Clauses X (.ExceptHandler (some (.Name x np)) (some n) (b₀ :: suite) cpos :: more) ((c, i, ts) :: l)
section
variable {X : Cx} {pins : List (Addr × Obj)} {σ : L2.St} {H : Hp} {s : Shared}
/-- a caught error joins what is tracked -/
theorem join {e : Addr} {cls : Value} {d : Option Addr} {oe : Obj} {vs : Array Value} (I : Inv X pins σ H s) (he : s.heap.get? e = some oe) (hz : Zc cls d oe) (hd : oe.data = .fields vs) (ne : H e = none) (nL : e ≠ X.env.locals) (old : X.s_0.heap.get? e = none) (np : ∀ q ∈ X.pn ++ pins, q.1 ≠ e) :
    Inv (X.suite e (X.pn ++ pins)) [] σ (upd H e (exk e cls d)) s := by
  have stays : ∀ {b : Addr} {o : HO}, H b = some o → (upd H e (exk e cls d)) b = some o := fun {b o} z => by
    rw [upd_ne (ne_of_none z ne)]
    exact z
  have empty : ∀ {b : Addr}, b ≠ e → H b = none → (upd H e (exk e cls d)) b = none := fun {b} hb z => by
    rw [upd_ne hb]
    exact z
  have U := I.base
  refine ⟨I.ok.suite _ _, I.os, I.bare, { U with free := fun b o q n x => empty (fun z => by rw [z, old] at q; cases q) (U.free b o q n x), tups := fun b xs q => stays (U.tups b xs q), frzs := fun b o u q => stays (U.frzs b o u q), tbls := fun b ps q => ?_ }, I.loc, I.cell, empty nL.symm I.free, fun y c q => empty (fun z => ?_) (I.freeC y c q), fun q hq => ?_, fun b o q => ?_, I.len⟩
  · obtain ⟨more, z⟩ := U.tbls b ps q
    exact ⟨more, stays z⟩
  · obtain ⟨v, o, ho, hc⟩ := I.cell y c q
    rw [z, he] at ho
    cases ho
    rw [hd] at hc
    cases hc
  · have hq' : q ∈ X.pn ++ pins := by rw [List.append_nil] at hq; exact hq
    obtain ⟨z1, z2, z3⟩ := I.pin q hq'
    exact ⟨z1, empty (np q hq') z2, z3⟩
  · by_cases hb : b = e
    · subst hb
      rw [upd_same] at q
      injection q with q
      rw [← q]
      exact exk_ok he hz hd
    · rw [upd_ne hb] at q
      exact (I.hok b o q).stay (fun _ _ _ z => z) (fun c z => stays z) fun c xs z => stays z
theorem part {e : Addr} {pn' : List (Addr × Obj)} (ok : X.Ok) (I : Inv (X.suite e (X.pn ++ pins)) pn' σ H s) : Inv X pins σ H s :=
  ⟨ok, I.os, I.bare, I.base, I.loc, I.cell, I.free, I.freeC, fun q hq => I.pin q (List.mem_append_left _ hq), I.hok, I.len⟩
/-- an error that has been caught, over the state before it -/
structure Got (X : Cx) (pins : List (Addr × Obj)) (σ : L2.St) (H : Hp) (e : Addr) (cls : Value) (d : Option Addr) (s' : Shared) : Prop where
  run : ∃ (B : Heap) (sI : Shared), Inv X pins σ H sI ∧ (∀ b o, sI.heap.get? b = some o → b ∉ frs X.stack → B.get? b = some o) ∧ sI.heap.UpToSlots s'.heap ∧ PySem.HandSPX.FlyingZ B (X.env :: X.outer) e (Zc cls d) s'.heap ∧ s'.os = sI.os ∧ AllBare s'.gens
  free : H e = none
theorem Got.facts {e : Addr} {cls : Value} {d : Option Addr} {s' : Shared} (G : Got X pins σ H e cls d s') (hs : X.stack = X.env :: X.outer) (hf : X.env.frame = some X.env.locals) (hx : X.ex = []) :
    Inv X pins σ H s' ∧ (∃ oe vs, s'.heap.get? e = some oe ∧ Zc cls d oe ∧ oe.data = .fields vs) ∧ e ≠ X.env.locals ∧ e ∉ X.fs ∧ X.s_0.heap.get? e = none ∧ ∀ q ∈ X.pn ++ pins, q.1 ≠ e := by
  obtain ⟨B, sI, J, nb, up, fl, os, ag⟩ := G.run
  obtain ⟨oe, vs, he, hz, hd⟩ := fl.there
  have nF : e ∉ frs (X.env :: X.outer) := fun hm => by
    obtain ⟨_, o2, z2, no⟩ := fl.2.2.1.mem hm
    rw [he] at z2
    cases z2
    exact no _ hd
  have inI : sI.heap.get? e = none := by
    cases z : sI.heap.get? e with
    | none => rfl
    | some o =>
      have z2 := nb e o z (by rw [hs]; exact nF)
      rw [fl.2.1] at z2
      cases z2
  refine ⟨J.landed nb fl.1 up os ag, ⟨oe, vs, he, hz, hd⟩, fun z => nF (List.mem_filterMap.mpr ⟨X.env, List.mem_cons_self, by rw [hf, z]⟩), fun hm => ?_, ?_, fun q hq z => ?_⟩
  · obtain ⟨v, h1, h2⟩ := List.mem_filterMap.mp hm
    exact nF (List.mem_filterMap.mpr ⟨v, List.mem_cons_of_mem _ h1, h2⟩)
  · cases z : X.s_0.heap.get? e with
    | none => rfl
    | some o =>
      obtain ⟨o2, z2⟩ := J.base.there e o z (by rw [hx]; simp)
      rw [inI] at z2
      cases z2
  · obtain ⟨z1, _⟩ := J.pin q hq
    rw [z, inI] at z1
    cases z1
theorem Got.land {e : Addr} {cls : Value} {d : Option Addr} {s' : Shared} {h' : Heap} (G : Got X pins σ H e cls d s') (fly : ∀ B, PySem.HandSPX.FlyingZ B (X.env :: X.outer) e (Zc cls d) s'.heap → PySem.HandSPX.FlyingZ B (X.env :: X.outer) e (Zc cls d) h') (u : s'.heap.UpToSlots h') : Got X pins σ H e cls d { s' with heap := h' } := by
  obtain ⟨B, sI, J, nb, up, fl, os, ag⟩ := G.run
  exact ⟨⟨B, sI, J, nb, up.trans u, fly B fl, os, ag⟩, G.free⟩
end
section
variable {X : Cx} {pins : List (Addr × Obj)} {Wout : WX} {D : Ends}
theorem clauses_run (hs : X.stack = X.env :: X.outer) (hf : X.env.frame = some X.env.locals) (hx : X.ex = []) (hN : X.N.Nodup) (ok : X.Ok) (tk : Takes X Wout) {e : Addr} {cls : Value} {d : Option Addr} {σ : L2.St} {H : Hp} {s' : Shared} (G : Got X pins σ H e cls d s') :
    ∀ {hds : List ExceptHandler} {l : List (Value × Nat × Suite)}, Clauses X hds l → wKeep X.K Wout D l cls d σ H → wpAny (model X.prog X.w) X.A (handleBy (.ref e) X.env hds) (SP X pins D) X.xe s' := by
  intro hds l C
  induction C with
  | none =>
    intro w
    obtain ⟨B, sI, J, nb, up, fl, os, ag⟩ := G.run
    refine wpAny_handleBy_nil ?_
    obtain ⟨_, _, _, oe, vs, T, oT, _, he, _, hd, h1, _⟩ := id fl
    have last : wpAny (model X.prog X.w) X.A (setFlight (.ref e) X.env.frame) (fun _ s4 => wpAny (model X.prog X.w) X.A (throw (.ref e) : Sem Flow) (SP X pins D) X.xe s4) X.xe s' := by
      rw [hf]
      exact HandSPX.setFlight_upZ fl fun h4 held u4 => wpAny_throw (tk _ _ ⟨e, B, sI, pins, σ, H, cls, d, rfl, J, nb, up.trans u4, .inr (.inr (by rw [hs]; exact held)), G.free, os, ag, w⟩)
    unfold PySem.passOn
    refine wpAny_bind (wpAny_field he hd h1 ?_)
    rw [if_neg (show ¬ ((Value.ref T == Value.none) = true) by simp)]
    first
      | exact wpAny_bind (wpAny_pure (wpAny_bind last))
      | exact wpAny_bind last
  | @one x n c i ts b₀ suite np cpos more l cn ix loc su m ih =>
    rintro ⟨b, hb, no, yes⟩
    obtain ⟨J, ⟨oe, vs, he, hz, hd⟩, nL, nF, s0, npn⟩ := G.facts hs hf hx
    have S := join J he hz hd G.free nL s0 npn
    refine wpAny_handleBy_cons (codeAny_handlers_test ?_) (by intro z; cases z)
    have kind : PySem.W.Looks (model X.prog X.w) s'.heap (typeOf (.ref e)) cls := fun A' Q' E' s2 k q => wpAny_typeOf_ref (k _ _ he) (by rw [hz.1]; exact q)
    have match_ := PySem.W.exm_one (M := model X.prog X.w) J.kIn kind hb
    have named : ∀ {Q E : Value → Shared → Prop}, Q c s' → wpAny (model X.prog X.w) (X.A.mark (some (.ref e))) (eval (.Name x np) X.env) Q E s' := fun {Q E} q => by
      obtain ⟨g1, g2, z | ⟨z1, z2, z3⟩⟩ := cn
      · exact ld_glob (X := X.suite e (X.pn ++ pins)) S g1 z q g2
      · exact ld_blt (X := X.suite e (X.pn ++ pins)) S g1 z1 z2 q z3 g2
    refine named (match_.here ?_)
    match b, no, yes with
    | false, no, _ => exact ih (no rfl)
    | true, _, yes =>
      obtain ⟨B, sI, J0, nb, up, fl, os, ag⟩ := G.run
      refine codeAny_handlers_suite_as (HandSPX.lands_againZ fl fun h4 fl4 up4 => ?_)
      have G4 : Got X pins σ H e cls d { s' with heap := h4 } := ⟨⟨B, sI, J0, nb, up.trans up4, fl4, os, ag⟩, G.free⟩
      obtain ⟨J4, ⟨oe4, vs4, he4, hz4, hd4⟩, _⟩ := G4.facts hs hf hx
      refine store_ok (X := X.suite e (X.pn ++ pins)) (v := .ref e) (join J4 he4 hz4 hd4 G.free nL s0 npn) hN ix (.inl loc) rfl (fun s5 S5 => ?_) (.inr loc)
      refine wpAny_mono ((su e cls d (X.pn ++ pins)).run [] s5 _ _ _ S5 (yes rfl e G.free)) (fun f s6 hsp => ?_) fun _ _ z => z.elim
      have out : ∀ {σ6 : L2.St} {H6 : Hp} {Q : Shared → Prop} {pn6 : List (Addr × Obj)}, Inv (X.suite e (X.pn ++ pins)) pn6 σ6 H6 s6 → (∀ s7, Inv X pins (σ6.set i none) H6 s7 → Q s7) → wpAny (model X.prog X.w) X.A (do bindName X.env n .none; unbindBehindTheSuite X.env n cpos) (fun _ s7 => Q s7) X.xe s6 :=
        fun S6 q => gone_ok (part ok S6) hN ix loc q
      match f, hsp with
      | .next, ⟨σ6, H6, S6, q6⟩ => exact out S6 fun s7 J7 => ⟨_, _, J7, q6⟩
      | .brk, ⟨σ6, H6, S6, q6⟩ => exact out S6 fun s7 J7 => ⟨_, _, J7, q6⟩
      | .cont, ⟨σ6, H6, S6, q6⟩ => exact out S6 fun s7 J7 => ⟨_, _, J7, q6⟩
      | .ret u, ⟨v6, σ6, H6, S6, r6, q6⟩ => exact out S6 fun s7 J7 => ⟨_, _, _, J7, r6, q6⟩
theorem ps_tryK {body : List Stmt} {hd : ExceptHandler} {hds : List ExceptHandler} {l : List (Value × Nat × Suite)} {pos : Pos} {tb : WX → TS} (hs : X.stack = X.env :: X.outer) (hf : X.env.frame = some X.env.locals) (hx : X.ex = []) (hN : X.N.Nodup) (tk : Takes X Wout)
    (hb : ∀ (W : WX) (pn : List (Addr × Obj)) (xe : Value → Shared → Prop), Takes (X.tr pn xe) W → PassesOwn (model X.prog X.w) X.A X.env xe → PSs (X.tr pn xe) body (tb W)) (hc : Clauses X (hd :: hds) l) : PS X (.Try body (hd :: hds) [] [] pos) (fun D σ H => tb (wKeep X.K Wout D l) D σ H) := by
  refine ⟨fun pins s σ H D I h => ?_⟩
  have ok := I.ok
  have fr : X.A.frames = some (X.env :: X.outer) := by rw [ok.frames, hs]
  refine wpAny_Try_except (wpAny_mono ((hb (wKeep X.K Wout D l) (X.pn ++ pins) _ (fun u s' xx => ?_) PassesOwn.looking).run [] s σ H D (I.toTry _) h) (fun f s1 hsp => ?_) fun _ _ z => z)
  · obtain ⟨e, B, sI, pins', σ', H', cls, d, rfl, J', nb, up, sky, ne, os, ag, w⟩ := xx
    have J : Inv X pins σ' H' sI := J'.ofTry ok
    refine Sky.land Zc.steady fr hf (by rw [← hs]; exact sky) fun h3 fl3 up3 => ?_
    exact clauses_run hs hf hx hN ok tk (s' := { s' with heap := h3 }) ⟨⟨B, sI, J, nb, up.trans up3, fl3, os, ag⟩, ne⟩ hc w
  · match f, hsp with
    | .next, ⟨σ', H', J', q⟩ => exact wpAny_execs_nil ⟨σ', H', J'.ofTry ok, q⟩
    | .brk, ⟨σ', H', J', q⟩ => exact ⟨σ', H', J'.ofTry ok, q⟩
    | .cont, ⟨σ', H', J', q⟩ => exact ⟨σ', H', J'.ofTry ok, q⟩
    | .ret u, ⟨v, σ', H', J', r, q⟩ => exact ⟨v, σ', H', J'.ofTry ok, r, q⟩
end
end XE

namespace V1
open PySem PySem.Spec PyProof.Rows L2 NdefX LamX KT
open PySem.W (Frag)
theorem ofText_bd {x : Str} (hd : (rdD x).dep ≤ 60) (hz : (rdD x).size ≤ 60000) : (ofText x).dep ≤ 60 ∧ (ofText x).size ≤ 60000 := by
  unfold ofText
  split
  · split
    · exact ⟨hd, hz⟩
    · exact ⟨by simp [D.dep], by simp [D.size]⟩
  · exact ⟨by simp [D.dep], by simp [D.size]⟩
/-- the texts that join rows -/
structure Gtx (mg : Str → Option Value) : Prop where
  b : ∃ t, mg "_BETWEEN" = some (.str (", " : Str) t)
  l : ∃ t, mg "_LINE_END" = some (.str ("\n" : Str) t)
/-- the error of the readers -/
structure PEr (K : Frag) (mg : Str → Option Value) (C fI : Addr) : Prop where
  e : K1.ErrC K mg "InvalidPaper" C fI
section
variable {P : Program} {w : World} {K : Frag} {mg : Str → Option Value} {base : Heap} {T : List (Addr × Str)} {C fI : Addr}
def spKindText (T : List (Addr × Str)) : Sp := fun vs H Q _ => ∃ v t, vs = [v] ∧ TyAt H v t ∧ t.d.dep ≤ 60 ∧ t.d.size ≤ 60000 ∧ Tabs T H ∧ ∀ H', ExtN H H' → Tabs T H' → Q (.str t.text) H'
theorem ok_kindText {f fc fx : Addr} {fd fdc fdx : FuncData} (T0 : Top K mg "kind_text" sKindText pKindText f fd) (TC : Top K mg "check_kind" sCheckKind pCheckKind fc fdc) (GC : FnOk P w K mg base CX0 3 fc fdc pCheckKind spCheckKindT) (TX : Top K mg "_text_of" sTextOf pTextOf fx fdx) (GX : FnOk P w K mg base CX0 6 fx fdx pTextOf (spTextOf T)) : FnOk P w K mg base CX0 7 f fd pKindText (spKindText T) := by
  refine T0.F.ok scKindText (fun vs H Q E h => ?_) (fun cdv A outer s H vs Q E hr h => ?_)
  · obtain ⟨_, _, rfl, _⟩ := h
    rfl
  · obtain ⟨v, t, rfl, ht, hd, hz, hT, k⟩ := h
    have hr6 := hr
    have hr3 : Room 3 _ := hr.mono (by decide)
    refine ⟨_, (pss_cons (ps_expr (pe_call GC hr3 rfl TC.g TC.F.kp TC.b .nil pass0 (pa_cons (pv 0) pa_nil)))
      (pss_one (ps_ret (pe_call GX hr6 rfl TX.g TX.F.kp TX.b .nil pass0 (pa_cons (pv 0) pa_nil))))), ?_⟩
    exact ⟨_, rfl, v, t, rfl, ht, hd, by omega, fun H1 s1 => ⟨_, rfl, v, t, rfl, ht.mono (TK.of_same s1), by omega, hT.ext s1, fun H2 e2 T2 => k H2 ((extn_same s1).trans e2) T2⟩⟩
def spKindTold (T : List (Addr × Str)) : Sp := fun vs H Q _ => ∃ x : Str, vs = [.str x] ∧ RdOk x ∧ Tabs T H ∧ ∀ v' H', ExtN H H' → Tabs T H' → DAt H' v' (ofText x) → (ofText x).dep ≤ 60 → (ofText x).size ≤ 60000 → Q v' H'
theorem ok_kindTold {f fp fi fx : Addr} {fd fdp fdi fdx : FuncData} (T0 : Top K mg "kind_told" sKindTold pKindTold f fd) (TP : Top K mg "_put_together" sPutTogether pPutTogether fp fdp) (GP : FnOk P w K mg base CX0 1 fp fdp pPutTogether spPutTogether) (TI : Top K mg "is_kind" sIsKind pIsKind fi fdi) (GI : FnOk P w K mg base CX0 2 fi fdi pIsKind spIsKindD) (TX : Top K mg "_text_of" sTextOf pTextOf fx fdx) (GX : FnOk P w K mg base CX0 6 fx fdx pTextOf (spTextOf T)) : FnOk P w K mg base CX0 7 f fd pKindTold (spKindTold T) := by
  refine T0.F.ok scKindTold (fun vs H Q E h => ?_) (fun cdv A outer s H vs Q E hr h => ?_)
  · obtain ⟨_, rfl, _⟩ := h
    rfl
  · obtain ⟨x, rfl, hx, hT, k⟩ := h
    have hr6 := hr
    have hr1 : Room 1 _ := hr.mono (by decide)
    have hr2 : Room 2 _ := hr.mono (by decide)
    refine ⟨_, (pss_cons (ps_set (i := 1) scKindTold.nd rfl (Or.inl rfl) (pe_call GP hr1 rfl TP.g TP.F.kp TP.b .nil pass0 (pa_cons (pv 0) pa_nil)))
      (pss_one (ps_ret (pe_ifExp (PW.pt (pw_and (pt_val (pe_call GI hr2 rfl TI.g TI.F.kp TI.b .nil pass0 (pa_cons (pv 1) pa_nil))) (pw_and1 (pt_cmpR op_eq (pe_call GX hr6 rfl TX.g TX.F.kp TX.b .nil pass0 (pa_cons (pv 1) pa_nil)) (pv 0) (nomark _))))) (pv 1) pe_non)))), ?_⟩
    refine ⟨_, rfl, x, rfl, hx, fun v1 H1 s1 h1 d1 z1 => gN ?_⟩
    dsimp only
    obtain ⟨b1, b2⟩ := ofText_bd d1 z1
    refine ⟨_, rfl, v1, rdD x, rfl, h1, d1, by omega, fun H2 s2 => ⟨_, rfl, ?_⟩⟩
    have s12 := s1.trans s2
    cases e : (rdD x).ty with
    | none =>
      have ek : (rdD x).isKd = false := by unfold D.isKd; rw [e]; rfl
      have eo : ofText x = .o := by unfold ofText; rw [e]
      rw [ek]
      exact iteF (k .non H2 (extn_same s12) (hT.ext s12) (by rw [eo]; exact .o) b1 b2)
    | some t =>
      have ek : (rdD x).isKd = true := by unfold D.isKd; rw [e]; rfl
      have ed : t.d = rdD x := D.ty_d e
      rw [ek]
      refine iteT ⟨_, rfl, v1, t, rfl, (h1.ty e).mono (TK.of_same s2), by rw [ed]; omega, hT.ext s12, fun H3 e3 T3 => ⟨_, rfl, rfl, ?_⟩⟩
      have eH : ExtN H H3 := (extn_same s12).trans e3
      by_cases c : t.text = x
      · have eo : ofText x = rdD x := by
          unfold ofText
          rw [e]
          show (if t.text = x then rdD x else .o) = _
          rw [if_pos c]
        refine ⟨true, congrArg V.bl (decide_eq_true (by rw [c])), iteT ⟨_, rfl, ?_⟩⟩
        exact k v1 H3 eH T3 (by rw [eo]; exact h1.mono ((TK.of_same s2).trans (extn_tk e3))) b1 b2
      · have eo : ofText x = .o := by
          unfold ofText
          rw [e]
          show (if t.text = x then rdD x else .o) = _
          rw [if_neg c]
        refine ⟨false, congrArg V.bl (decide_eq_false fun z => c (by injection z)), iteF ?_⟩
        exact k .non H3 eH T3 (by rw [eo]; exact .o) b1 b2
def spRowText (sep : Str) (T : List (Addr × Str)) : Sp := fun vs H Q _ => ∃ L ts, vs = [.ref L] ∧ RowAt H L ts ∧ ts ≠ [] ∧ ts.length ≤ 100 ∧ (∀ t ∈ ts, t.d.dep ≤ 60 ∧ t.d.size ≤ 1000) ∧ Tabs T H ∧ ∀ H', ExtN H H' → Tabs T H' → Q (.str (Txt.join sep (ts.map Ty.text))) H'
theorem sum_le {l : List Nat} {b : Nat} (h : ∀ x ∈ l, x ≤ b) : l.sum ≤ l.length * b := by
  induction l with
  | nil => simp
  | cons x l ih =>
    have := h x List.mem_cons_self
    have := ih fun y hy => h y (List.mem_cons_of_mem _ hy)
    simp only [List.sum_cons, List.length_cons, Nat.succ_mul]
    omega
theorem tys_wok {H : Hp} {us : List V} {ts : List Ty} (h : Tys H us ts) : ∀ t ∈ ts, t.wok := by
  induction h with
  | nil => intro t h; cases h
  | cons a _ ih =>
    intro t ht
    rcases List.mem_cons.mp ht with rfl | ht
    · exact a.wok
    · exact ih t ht
theorem ok_rowText {f fc fx : Addr} {fd fdc fdx : FuncData} (T0 : Top K mg "row_text" sRowText pRowText f fd) (TC : Top K mg "check_row" sCheckRow pCheckRow fc fdc) (GC : FnOk P w K mg base CX0 5 fc fdc pCheckRow spCheckRow) (TX : Top K mg "_text_of" sTextOf pTextOf fx fdx) (GX : FnOk P w K mg base CX0 6 fx fdx pTextOf (spTextOf T)) (GB : Gtx mg) : FnOk P w K mg base CX0 7 f fd pRowText (spRowText (", " : Str) T) := by
  obtain ⟨tb, gB⟩ := GB.b
  refine T0.F.ok scRowText (fun vs H Q E h => ?_) (fun cdv A outer s H vs Q E hr h => ?_)
  · obtain ⟨_, _, rfl, _⟩ := h
    rfl
  · obtain ⟨L, ts, rfl, hR, hne, hl, hb, hT, k⟩ := h
    have hr6 := hr
    have hr5 : Room 5 _ := hr.mono (by decide)
    refine ⟨_, (pss_cons (ps_expr (pe_call GC hr5 rfl TC.g TC.F.kp TC.b .nil pass0 (pa_cons (pv 0) pa_nil)))
      (pss_one (ps_ret (pe_join (pe_glob (v := .str (", " : Str)) rfl gB ⟨tb, rfl⟩) (pe_lc (own := [("kind", 1)]) (g := (gName 1)) (tt := tYes) rfl scRowText.nd (pi_list (pv 0)) (blkOk_by (N := nRowText) (sc := defScope sRowText) (by decide +kernel)) (fun _ _ _ _ _ => pg_name (i := 1) scRowText.nd rfl (Or.inl rfl)) (fun _ _ _ _ _ => pts_nil) (fun _ _ _ _ _ => (pe_call GX hr6 rfl TX.g TX.F.kp TX.b .nil pass0 (pa_cons (pv 1) pa_nil)))))))), ?_⟩
    refine ⟨_, rfl, L, ts, rfl, hR, ⟨by omega, fun t ht => ⟨(hb t ht).1, by have := (hb t ht).2; omega⟩⟩, hne, fun H1 s1 => ⟨⟨_, rfl⟩, ?_⟩⟩
    obtain ⟨us, eL, hU⟩ := hR.same s1
    have lU := hU.length
    have wk := tys_wok hU
    refine ⟨_, rfl, L, rfl, ⟨_, SqL.of eL⟩, fun D hD => ?_⟩
    refine lc_list (K := K) (xs := us) (fun i H' => ExtN H1 H' ∧ Tabs T H' ∧ H' D = some (.lst ((ts.take i).map fun t => V.str t.text))) ⟨extn_same (same_upd hD), (hT.ext s1).ext (same_upd hD), by rw [upd_same]; rfl⟩ (fun i H' _ q => SqL.of (extn_lst q.1 eL)) ?_ ?_
    · rintro i x H' hx ⟨eH, T2, eD⟩
      obtain ⟨t, ht, hxt⟩ := hU.at_ hx
      have mt := List.mem_of_getElem? ht
      refine ⟨rfl, x, rfl, x, t, rfl, hxt.mono (extn_tk eH), by have := (hb t mt).2; omega, T2, fun H3 e3 T3 => ⟨_, extn_lst e3 eD, by rw [List.length_map, List.length_take, sizeLine_eq]; omega, ?_⟩⟩
      exact ⟨extn_over (eH.trans e3) hD, tabs_lst T3 (extn_lst e3 eD), by rw [upd_same, List.take_add_one, ht, List.map_append]; rfl⟩
    · rintro H' ⟨eH, T2, eD⟩
      rw [lU, List.take_length] at eD
      refine ⟨_, _, ts.map Ty.text, rfl, rfl, .inl (SqL.of (by rw [eD, List.map_map]; rfl)), ?_, k H' ((extn_same s1).trans eH) T2⟩
      have q := sum_le (l := (ts.map Ty.text).map (·.length)) (b := 8000) fun x hx => by
        obtain ⟨y, hy, rfl⟩ := List.mem_map.mp hx
        obtain ⟨t, ht, rfl⟩ := List.mem_map.mp hy
        have := text_len t (wk t ht)
        have := (hb t ht).2
        omega
      have l2 : ((", " : Str)).length = 2 := by decide +kernel
      rw [List.length_map, List.length_map] at q
      rw [l2, List.length_map]
      omega
theorem ok_kindsText {f fc fx : Addr} {fd fdc fdx : FuncData} (T0 : Top K mg "kinds_text" sKindsText pKindsText f fd) (TC : Top K mg "check_row" sCheckRow pCheckRow fc fdc) (GC : FnOk P w K mg base CX0 5 fc fdc pCheckRow spCheckRow) (TX : Top K mg "_text_of" sTextOf pTextOf fx fdx) (GX : FnOk P w K mg base CX0 6 fx fdx pTextOf (spTextOf T)) (GB : Gtx mg) : FnOk P w K mg base CX0 7 f fd pKindsText (spRowText ("\n" : Str) T) := by
  obtain ⟨tb, gB⟩ := GB.l
  refine T0.F.ok scKindsText (fun vs H Q E h => ?_) (fun cdv A outer s H vs Q E hr h => ?_)
  · obtain ⟨_, _, rfl, _⟩ := h
    rfl
  · obtain ⟨L, ts, rfl, hR, hne, hl, hb, hT, k⟩ := h
    have hr6 := hr
    have hr5 : Room 5 _ := hr.mono (by decide)
    refine ⟨_, (pss_cons (ps_expr (pe_call GC hr5 rfl TC.g TC.F.kp TC.b .nil pass0 (pa_cons (pv 0) pa_nil)))
      (pss_one (ps_ret (pe_join (pe_glob (v := .str ("\n" : Str)) rfl gB ⟨tb, rfl⟩) (pe_lc (own := [("kind", 1)]) (g := (gName 1)) (tt := tYes) rfl scKindsText.nd (pi_list (pv 0)) (blkOk_by (N := nKindsText) (sc := defScope sKindsText) (by decide +kernel)) (fun _ _ _ _ _ => pg_name (i := 1) scKindsText.nd rfl (Or.inl rfl)) (fun _ _ _ _ _ => pts_nil) (fun _ _ _ _ _ => (pe_call GX hr6 rfl TX.g TX.F.kp TX.b .nil pass0 (pa_cons (pv 1) pa_nil)))))))), ?_⟩
    refine ⟨_, rfl, L, ts, rfl, hR, ⟨by omega, fun t ht => ⟨(hb t ht).1, by have := (hb t ht).2; omega⟩⟩, hne, fun H1 s1 => ⟨⟨_, rfl⟩, ?_⟩⟩
    obtain ⟨us, eL, hU⟩ := hR.same s1
    have lU := hU.length
    have wk := tys_wok hU
    refine ⟨_, rfl, L, rfl, ⟨_, SqL.of eL⟩, fun D hD => ?_⟩
    refine lc_list (K := K) (xs := us) (fun i H' => ExtN H1 H' ∧ Tabs T H' ∧ H' D = some (.lst ((ts.take i).map fun t => V.str t.text))) ⟨extn_same (same_upd hD), (hT.ext s1).ext (same_upd hD), by rw [upd_same]; rfl⟩ (fun i H' _ q => SqL.of (extn_lst q.1 eL)) ?_ ?_
    · rintro i x H' hx ⟨eH, T2, eD⟩
      obtain ⟨t, ht, hxt⟩ := hU.at_ hx
      have mt := List.mem_of_getElem? ht
      refine ⟨rfl, x, rfl, x, t, rfl, hxt.mono (extn_tk eH), by have := (hb t mt).2; omega, T2, fun H3 e3 T3 => ⟨_, extn_lst e3 eD, by rw [List.length_map, List.length_take, sizeLine_eq]; omega, ?_⟩⟩
      exact ⟨extn_over (eH.trans e3) hD, tabs_lst T3 (extn_lst e3 eD), by rw [upd_same, List.take_add_one, ht, List.map_append]; rfl⟩
    · rintro H' ⟨eH, T2, eD⟩
      rw [lU, List.take_length] at eD
      refine ⟨_, _, ts.map Ty.text, rfl, rfl, .inl (SqL.of (by rw [eD, List.map_map]; rfl)), ?_, k H' ((extn_same s1).trans eH) T2⟩
      have q := sum_le (l := (ts.map Ty.text).map (·.length)) (b := 8000) fun x hx => by
        obtain ⟨y, hy, rfl⟩ := List.mem_map.mp hx
        obtain ⟨t, ht, rfl⟩ := List.mem_map.mp hy
        have := text_len t (wk t ht)
        have := (hb t ht).2
        omega
      have l2 : (("\n" : Str)).length = 1 := by decide +kernel
      rw [List.length_map, List.length_map] at q
      rw [l2, List.length_map]
      omega
end
end V1

namespace V1
open PySem PySem.Spec PyProof.Rows L2 NdefX LamX KT
open PySem.W (Frag)
/-- what is told of a row's text -/
def ofTexts (sep x : Str) : List D := (Txt.split x sep).map ofText
def isNoD : D → Bool
  | .o => true
  | _ => false
theorem any_no (ds : List D) : ((pyAll ds).any fun z => PyData.eqv z .none) = ds.any isNoD := by
  induction ds with
  | nil => rfl
  | cons d r ih =>
    simp only [pyAll, List.any_cons, ih]
    congr 1
    cases d <;> simp [D.py, PyData.eqv, isNoD]
theorem depAll_le {ds : List D} {n : Nat} (h : ∀ d ∈ ds, d.dep ≤ n) : depAll ds ≤ n := by
  induction ds with
  | nil => exact Nat.zero_le _
  | cons d r ih =>
    have := h d List.mem_cons_self
    have := ih fun u hu => h u (List.mem_cons_of_mem _ hu)
    simp only [depAll]
    omega
/-- the parts of a text that may be read may be read -/
theorem count_part {x y p : Str} (h : p ∈ Txt.split x y) (c : Nat) : p.cps.toList.count c ≤ x.cps.toList.count c := by
  have q := jn_is y (Txt.split x y)
  rw [StrLaws.join_split] at q
  rw [q]
  have key : ∀ (l : List (List Nat)) (a : List Nat), a ∈ l → a.count c ≤ (jn y.cps.toList l).count c := by
    intro l
    induction l with
    | nil => intro a h; cases h
    | cons b r ih =>
      intro a ha
      cases r with
      | nil => rw [List.mem_singleton.mp ha]; exact Nat.le_refl _
      | cons d r =>
        show _ ≤ (b ++ y.cps.toList ++ jn y.cps.toList (d :: r)).count c
        rw [List.count_append, List.count_append]
        rcases List.mem_cons.mp ha with rfl | ha
        · omega
        · have := ih a ha
          omega
  exact key _ _ (List.mem_map.mpr ⟨p, h, rfl⟩)
theorem rdok_part {x y p : Str} (h : RdOk x) (hp : p ∈ Txt.split x y) : RdOk p :=
  ⟨fun c hc => h.1 c (part_mem hp c hc), Nat.le_trans (part_short hp) h.2.1, Nat.le_trans (count_part hp 41) h.2.2⟩
section
variable {P : Program} {w : World} {K : Frag} {mg : Str → Option Value} {base : Heap} {T : List (Addr × Str)} {C fI : Addr}
/-- a reader's promise: the list, or the error with the very text -/
def spReads (sep : Option Str) (C : Addr) (T : List (Addr × Str)) (x : Str) (H : Hp) (Q : VK) (E : XK) : Prop := match sep with
  | some sp => (∀ L us H', ExtN H H' → Tabs T H' → H' L = some (.lst us) → DsAt H' us (ofTexts sp x) → (ofTexts sp x).any isNoD = false → H L = none → Q (.ref L) H') ∧ ((ofTexts sp x).any isNoD = true → ∀ d H', ExtN H H' → Tabs T H' → H' d = none → E (.ref C) (some d) (upd H' d (XE.vdict (.str x))))
  | none => (∀ v H', ExtN H H' → Tabs T H' → DAt H' v (ofText x) → isNoD (ofText x) = false → Q v H') ∧ (isNoD (ofText x) = true → ∀ d H', ExtN H H' → Tabs T H' → H' d = none → E (.ref C) (some d) (upd H' d (XE.vdict (.str x))))
def spKindsTold (C : Addr) (T : List (Addr × Str)) : Sp := fun vs H Q E => ∃ x sp : Str, vs = [.str x, .str sp] ∧ RdOk x ∧ (sp.length == 0) = false ∧ Tabs T H ∧ spReads (some sp) C T x H Q E
theorem split_le_len {x y : Str} : (Txt.split x y).length ≤ x.length + 2 := split_le x y
theorem ok_kindsTold {f fk : Addr} {fd fdk : FuncData} (T0 : Top K mg "_kinds_told" sKindsTold pKindsTold f fd) (TK_ : Top K mg "kind_told" sKindTold pKindTold fk fdk) (GK : FnOk P w K mg base CX0 7 fk fdk pKindTold (spKindTold T)) (B : Blt mg) (PE_ : K1.ErrC K mg "InvalidPaper" C fI) : FnOk P w K mg base (L2.CX P w) 8 f fd pKindsTold (spKindsTold C T) := by
  refine T0.F.okX scKindsTold (fun vs H Q E h => ?_) (fun cdv A outer s H vs Q E hr h => ?_)
  · obtain ⟨_, _, rfl, _⟩ := h
    rfl
  · obtain ⟨x, sp, rfl, hx, hsp, hT, k1, k2⟩ := h
    have hr7 := hr
    have hr1 : Room 1 _ := hr.mono (by decide)
    have rs : Raises (cxOf (L2.CX P w) P w K mg base nKindsTold "_kinds_told" (defScope sKindsTold) f cdv A outer s H E) (.ref C) := raises_own PE_.ox.exC PE_.ox.tyC
    refine ⟨_, pss_cons (ps_if (pt_not (pt_val (pe_callB call_isi (by rfl) B.isi (by decide +kernel) (pa_cons (pv 0) (pa_cons (pe_bltn (v := .ty "str") (by rfl) B.str_ (by decide +kernel) rfl) pa_nil))))) pss_never pss_nil)
      (pss_cons (ps_setLc (i := 2) (own := [("part", 3)]) (g := (gName 3)) (tt := tYes) rfl scKindsTold.nd rfl rfl (by rfl) (pi_list (pe_split (pv 0) (pv 1))) (blkOk_by (N := nKindsTold) (sc := defScope sKindsTold) (by decide +kernel)) (fun _ _ _ _ _ => pg_name (i := 3) scKindsTold.nd rfl (Or.inl rfl)) (fun _ _ _ _ _ => pts_nil) (fun _ _ _ _ _ => (pe_call GK hr7 rfl TK_.g TK_.F.kp TK_.b .nil pass0 (pa_cons (pv 3) pa_nil))))
      (pss_cons (ps_if (pt_cmpR (op_inD (hu65 hr)) pe_non (pv 2) (by rfl)) (pss_one (XE.ps_raiseE rfl PE_ rs hr1 (takes_of rfl rfl rfl rfl) (pv 0))) pss_nil) (pss_one (ps_ret (pv 2))))), ?_⟩
    have lsp := split_le_len (x := x) (y := sp)
    have hl := hx.2.1
    refine ⟨_, rfl, _, _, _, _, true, rfl, .ty "str", .base (.str x), kit_ty (by decide +kernel), true, rfl, iteF ?_⟩
    refine ⟨_, rfl, ⟨_, rfl⟩, _, rfl, x, sp, rfl, rfl, hsp, by rw [sizeLine_eq]; omega, fun p hp => ⟨p, rfl, ⟨_, SqL.of upd_same⟩, fun D hD => ?_⟩⟩
    have s1 := same_upd (o := .lst ((Txt.split x sp).map V.str)) hp
    refine lc_list (K := K) (xs := (Txt.split x sp).map V.str) (fun i H' => ExtN (upd H p (.lst ((Txt.split x sp).map V.str))) H' ∧ Tabs T H' ∧ ∃ us, H' D = some (.lst us) ∧ DsAt H' us (((Txt.split x sp).take i).map ofText) ∧ ∀ u ∈ ((Txt.split x sp).take i).map ofText, u.dep ≤ 60)
      ⟨extn_same (same_upd hD), (hT.ext s1).ext (same_upd hD), [], upd_same, .nil, fun u hu => by cases hu⟩ (fun i H' _ q => SqL.of (extn_lst q.1 upd_same)) ?_ ?_
    · rintro i y H' hy ⟨eH, T2, us, eD, hU, hdp⟩
      rw [List.getElem?_map] at hy
      obtain ⟨z, hzi, rfl⟩ := Option.map_eq_some_iff.mp hy
      obtain ⟨hi, _⟩ := List.getElem?_eq_some_iff.mp hzi
      have mz := List.mem_of_getElem? hzi
      have lU := hU.length
      rw [List.length_map, List.length_take] at lU
      refine ⟨rfl, _, rfl, z, rfl, rdok_part hx mz, T2, fun v H3 e3 T3 hv hd hz => ⟨_, extn_lst e3 eD, by rw [sizeLine_eq]; omega, ?_⟩⟩
      have tkw : TK H3 (upd H3 D (.lst (us ++ [v]))) := TK.upd_lst (extn_lst e3 eD)
      refine ⟨extn_over (eH.trans e3) hD, tabs_lst T3 (extn_lst e3 eD), us ++ [v], upd_same, ?_, ?_⟩
      · rw [List.take_add_one, hzi, List.map_append]
        exact ((hU.mono (extn_tk e3)).mono tkw).append (.cons (hv.mono tkw) .nil)
      · rw [List.take_add_one, hzi, List.map_append]
        intro u hu
        rcases List.mem_append.mp hu with hu | hu
        · exact hdp u hu
        · rw [List.mem_singleton.mp hu]
          exact hd
    · rintro H' ⟨eH, T2, us, eD, hU, hdp⟩
      rw [List.length_map, List.take_length] at hU hdp
      dsimp only
      have eA : ExtN H H' := (extn_same s1).trans eH
      obtain ⟨p1, p2, p3⟩ := DsAt.py (K := K) hU
      have sh : SeqAt.shaped (.list (pyAll ((Txt.split x sp).map ofText))) = true := by
        unfold SeqAt.shaped
        have q := depAll_le hdp
        simp only [PyData.canLay0, PyData.depth, p2, p3, Bool.true_and, decide_eq_true_eq]
        omega
      refine ⟨_, rfl, .none, _, .non, .lst (SqL.of eD) p1, by decide +kernel, sh, ?_⟩
      rw [any_no]
      have fr : H D = none := s1.free hD
      cases ha : ((Txt.split x sp).map ofText).any isNoD with
      | true => exact ⟨_, rfl, iteT ⟨_, rfl, fun d hd => k2 ha d H' eA T2 hd⟩⟩
      | false => exact ⟨_, rfl, iteF ⟨_, rfl, k1 D us H' eA T2 eD hU ha fr⟩⟩
def spRead (sep : Option Str) (C : Addr) (T : List (Addr × Str)) : Sp := fun vs H Q E => ∃ x : Str, vs = [.str x] ∧ RdOk x ∧ Tabs T H ∧ spReads sep C T x H Q E
theorem ok_readKind {f fk : Addr} {fd fdk : FuncData} (T0 : Top K mg "read_kind" sReadKind pReadKind f fd) (TK_ : Top K mg "kind_told" sKindTold pKindTold fk fdk) (GK : FnOk P w K mg base CX0 7 fk fdk pKindTold (spKindTold T)) (B : Blt mg) (PE_ : K1.ErrC K mg "InvalidPaper" C fI) : FnOk P w K mg base (L2.CX P w) 8 f fd pReadKind (spRead none C T) := by
  refine T0.F.okX scReadKind (fun vs H Q E h => ?_) (fun cdv A outer s H vs Q E hr h => ?_)
  · obtain ⟨_, rfl, _⟩ := h
    rfl
  · obtain ⟨x, rfl, hx, hT, k1, k2⟩ := h
    have hr7 := hr
    have hr1 : Room 1 _ := hr.mono (by decide)
    have rs : Raises (cxOf (L2.CX P w) P w K mg base nReadKind "read_kind" (defScope sReadKind) f cdv A outer s H E) (.ref C) := raises_own PE_.ox.exC PE_.ox.tyC
    refine ⟨_, pss_cons (ps_set (i := 1) scReadKind.nd rfl (Or.inl rfl) (pe_ifExp (pt_val (pe_callB call_isi (by rfl) B.isi (by decide +kernel) (pa_cons (pv 0) (pa_cons (pe_bltn (v := .ty "str") (by rfl) B.str_ (by decide +kernel) rfl) pa_nil)))) (pe_call GK hr7 rfl TK_.g TK_.F.kp TK_.b .nil pass0 (pa_cons (pv 0) pa_nil)) pe_non))
      (pss_cons (ps_if (pt_cmpR op_isN (pv 1) pe_non (nomark _)) (pss_one (XE.ps_raiseE rfl PE_ rs hr1 (takes_of rfl rfl rfl rfl) (pv 0))) pss_nil) (pss_one (ps_ret (pv 1)))), ?_⟩
    refine ⟨_, rfl, _, _, _, _, true, rfl, .ty "str", .base (.str x), kit_ty (by decide +kernel), true, rfl, iteT ⟨_, rfl, x, rfl, hx, hT, fun v H1 e1 T1 hv hd hz => gN ?_⟩⟩
    dsimp only
    refine ⟨_, rfl, rfl, ?_⟩
    have e0 : decide (v = V.non) = isNoD (ofText x) := by
      generalize ofText x = d at hv
      cases hv with
      | o => exact decide_eq_true rfl
      | s _ => exact decide_eq_false fun z => by cases z
      | i _ => exact decide_eq_false fun z => by cases z
      | t _ _ => exact decide_eq_false fun z => by cases z
    refine ⟨_, congrArg V.bl e0, ?_⟩
    cases ha : isNoD (ofText x) with
    | true => exact iteT ⟨_, rfl, fun d hd => k2 ha d H1 e1 T1 hd⟩
    | false => exact iteF ⟨_, rfl, k1 v H1 e1 T1 hv ha⟩
theorem ok_readRow {f fk : Addr} {fd fdk : FuncData} (T0 : Top K mg "read_row" sReadRow pReadRow f fd) (TS : Top K mg "_kinds_told" sKindsTold pKindsTold fk fdk) (GS : FnOk P w K mg base (L2.CX P w) 8 fk fdk pKindsTold (spKindsTold C T)) (GB : Gtx mg) : FnOk P w K mg base (L2.CX P w) 9 f fd pReadRow (spRead (some (", " : Str)) C T) := by
  obtain ⟨tb, gB⟩ := GB.b
  refine T0.F.okX scReadRow (fun vs H Q E h => ?_) (fun cdv A outer s H vs Q E hr h => ?_)
  · obtain ⟨_, rfl, _⟩ := h
    rfl
  · obtain ⟨x, rfl, hx, hT, k⟩ := h
    refine ⟨_, pss_one (ps_ret (pe_callS GS hr rfl TS.g TS.F.kp TS.b (fun σ => passAt (takes_of rfl rfl rfl rfl) σ) (pa_cons (pv 0) (pa_cons (pe_glob (v := .str (", " : Str)) rfl gB ⟨tb, rfl⟩) pa_nil)))), ?_⟩
    exact ⟨_, rfl, x, _, rfl, hx, by decide +kernel, hT, k⟩
theorem ok_readKinds {f fk : Addr} {fd fdk : FuncData} (T0 : Top K mg "read_kinds" sReadKinds pReadKinds f fd) (TS : Top K mg "_kinds_told" sKindsTold pKindsTold fk fdk) (GS : FnOk P w K mg base (L2.CX P w) 8 fk fdk pKindsTold (spKindsTold C T)) (GB : Gtx mg) : FnOk P w K mg base (L2.CX P w) 9 f fd pReadKinds (spRead (some ("\n" : Str)) C T) := by
  obtain ⟨tb, gB⟩ := GB.l
  refine T0.F.okX scReadKinds (fun vs H Q E h => ?_) (fun cdv A outer s H vs Q E hr h => ?_)
  · obtain ⟨_, rfl, _⟩ := h
    rfl
  · obtain ⟨x, rfl, hx, hT, k⟩ := h
    refine ⟨_, pss_one (ps_ret (pe_callS GS hr rfl TS.g TS.F.kp TS.b (fun σ => passAt (takes_of rfl rfl rfl rfl) σ) (pa_cons (pv 0) (pa_cons (pe_glob (v := .str ("\n" : Str)) rfl gB ⟨tb, rfl⟩) pa_nil)))), ?_⟩
    exact ⟨_, rfl, x, _, rfl, hx, by decide +kernel, hT, k⟩
end
end V1

namespace V1
open PySem PySem.Spec PyProof.Rows L2 NdefX LamX KT
open PySem.W (Frag)
theorem dep_n {g : Sg} {a b : Ty} : (Ty.n g a b).d.dep = max a.d.dep b.d.dep + 1 := by simp only [Ty.d, D.dep, depAll]; omega
theorem ixN_last {n : Nat} (h : 1 ≤ n) : ixN n (-1) = some (n - 1) := by
  unfold ixN
  rw [if_neg (by omega), if_pos (by omega)]
  congr 1
  omega
theorem set_last {α : Type} (b : α) : ∀ l : List α, l ≠ [] → l.set (l.length - 1) b = l.dropLast ++ [b]
  | [], h => (h rfl).elim
  | [x], _ => rfl
  | x :: y :: r, _ => by
    show x :: (y :: r).set ((y :: r).length - 1) b = x :: ((y :: r).dropLast ++ [b])
    rw [set_last b (y :: r) (by simp)]
theorem atI_lastA {us : List V} {a : V} (h : us.getLast? = some a) : atI us (-1) = some a := by
  unfold atI
  have hl : 1 ≤ us.length := by
    cases us with
    | nil => cases h
    | cons _ _ => simp
  rw [ixN_last hl]
  show us[us.length - 1]? = _
  rw [← h, List.getLast?_eq_getElem?]
theorem hu64 {A : Around} {k : Nat} (hr : Room k A) : A.units + 64 < cLine := by
  have := hr.un
  omega
section
variable {P : Program} {w : World} {K : Frag} {mg : Str → Option Value} {base : Heap} {T : List (Addr × Str)}
def spLText (d : Nat) : Sp := fun vs H Q _ => ∃ v t, vs = [v] ∧ TyAt H v t ∧ t.d.dep ≤ d ∧ t.d.size ≤ 10000 ∧ Q (.str t.text) H
theorem ok_ltext {f : Addr} {fd : FuncData} (T : Top K mg "_law_text" sLText pLText f fd) (B : Blt mg) : ∀ d : Nat, FnOk P w K mg base CX0 (1 + d) f fd pLText (spLText d)
  | 0 => by
    refine T.F.ok scLText (fun vs H Q E h => ?_) (fun cdv A outer s H vs Q E hr h => ?_)
    · obtain ⟨_, _, rfl, _⟩ := h
      rfl
    · obtain ⟨v, t, rfl, ht, hd, hz, k⟩ := h
      refine ⟨_, (pss_one (ps_ret (pe_ifExp (pt_val (pe_callB call_isi (by rfl) B.isi (by decide +kernel) (pa_cons (pv 0) (pa_cons (pe_bltn (v := .ty "str") (by rfl) B.str_ (by decide +kernel) rfl) pa_nil)))) (pv 0) pe_never))), ?_⟩
      cases ht with
      | @w z h => exact ⟨_, rfl, _, _, _, _, true, rfl, .ty "str", .base (.str z), kit_ty (by decide +kernel), true, rfl, iteT ⟨_, rfl, k⟩⟩
      | @n p g x y a b e h1 h2 =>
        rw [dep_n] at hd
        omega
  | d + 1 => by
    have GP : FnOk P w K mg base CX0 (1 + d) f fd pLText (spLText d) := ok_ltext T B d
    refine T.F.ok (k := 1 + d) scLText (fun vs H Q E h => ?_) (fun cdv A outer s H vs Q E hr h => ?_)
    · obtain ⟨_, _, rfl, _⟩ := h
      rfl
    · obtain ⟨v, t, rfl, ht, hd', hz, k⟩ := h
      refine ⟨_, (pss_one (ps_ret (pe_ifExp (pt_val (pe_callB call_isi (by rfl) B.isi (by decide +kernel) (pa_cons (pv 0) (pa_cons (pe_bltn (v := .ty "str") (by rfl) B.str_ (by decide +kernel) rfl) pa_nil)))) (pv 0) (pe_op op_add_str (pe_op op_add_str (pe_op op_add_str (pe_op op_add_str (pe_op op_add_str (pe_op op_add_str pe_str (pe_call GP hr rfl T.g T.F.kp T.b .nil pass0 (pa_cons (pe_ix ix_tup (pv 0) pe_int (fun _ _ => rfl)) pa_nil))) pe_str) (pe_ix ix_tup (pv 0) pe_int (fun _ _ => rfl))) pe_str) (pe_call GP hr rfl T.g T.F.kp T.b .nil pass0 (pa_cons (pe_ix ix_tup (pv 0) pe_int (fun _ _ => rfl)) pa_nil))) pe_str)))), ?_⟩
      have wk := ht.wok
      cases ht with
      | @w z h => exact ⟨_, rfl, _, _, _, _, true, rfl, .ty "str", .base (.str z), kit_ty (by decide +kernel), true, rfl, iteT ⟨_, rfl, k⟩⟩
      | @n p g x y a b e h1 h2 =>
        rw [dep_n] at hd'
        simp only [Ty.d, D.size, sizeAll] at hz
        have la := text_len a wk.1
        have lb := text_len b wk.2
        have lg : g.str.length ≤ 5 := by cases g <;> decide +kernel
        have e1 : (("(" : Str)).length = 1 := by decide +kernel
        have e2 : ((" " : Str)).length = 1 := by decide +kernel
        have e3 : ((")" : Str)).length = 1 := by decide +kernel
        refine ⟨_, rfl, _, _, _, _, false, rfl, .ty "str", .base (.tup e), kit_ty (by decide +kernel), false, rfl, iteF ?_⟩
        refine ⟨_, rfl, p, _, _, _, rfl, rfl, SqT.of e, atI_nat (j := 1) rfl, x, a, rfl, h1, by omega, by omega, _, _, rfl, rfl, by rw [sizeLine_eq]; omega, _, _, rfl, rfl, by simp only [str_len_app]; rw [sizeLine_eq]; omega, ?_⟩
        refine ⟨_, rfl, p, _, _, _, rfl, rfl, SqT.of e, atI_nat (j := 0) rfl, _, _, rfl, rfl, by simp only [str_len_app]; rw [sizeLine_eq]; omega, _, _, rfl, rfl, by simp only [str_len_app]; rw [sizeLine_eq]; omega, ?_⟩
        refine ⟨_, rfl, p, _, _, _, rfl, rfl, SqT.of e, atI_nat (j := 2) rfl, y, b, rfl, h2, by omega, by omega, _, _, rfl, rfl, by simp only [str_len_app]; rw [sizeLine_eq]; omega, _, _, rfl, rfl, by simp only [str_len_app]; rw [sizeLine_eq]; omega, ?_⟩
        have q : (((((("(" : Str) ++ a.text) ++ (" " : Str)) ++ g.str) ++ (" " : Str)) ++ b.text) ++ (")" : Str) = (Ty.n g a b).text := by rw [lit40, lit32, lit41]; rfl
        dsimp only
        rw [q]
        exact k
/-- texts as data -/
theorem strs_dp {H : Hp} : ∀ (l : List Str), (∀ p ∈ l, TxtOk p) → DpAll K H (l.map V.str) (l.map PyData.str) ∧ PyData.canLayAll0 (l.map PyData.str) = true ∧ PyData.depthAll (l.map PyData.str) = 0
  | [], _ => ⟨.nil, by simp [PyData.canLayAll0], by simp [PyData.depthAll]⟩
  | p :: r, h => by
    obtain ⟨a, b, c⟩ := strs_dp (H := H) r fun q hq => h q (List.mem_cons_of_mem _ hq)
    have hp := (h p List.mem_cons_self).1
    exact ⟨.cons (.str p) a, by simp only [List.map_cons, PyData.canLayAll0, PyData.canLay0, hp, b, Bool.and_self], by simp only [List.map_cons, PyData.depthAll, PyData.depth, c]; rfl⟩
def spLPieces : Sp := fun vs H Q _ => ∃ x : Str, vs = [.str x] ∧ RdOk x ∧ ∀ L H', Same H H' → H L = none → H' L = some (.lst ((pieces x).map V.str)) → Q (.ref L) H'
theorem low_mem (c : Nat) : decide (c ∈ abc.cps.toList) = low c := abc_iff c
theorem pieces_len (cs : List Nat) : (cs.foldl pc1 []).length ≤ cs.length ∧ ∀ p ∈ cs.foldl pc1 [], 1 ≤ p.length ∧ p.length ≤ cs.length ∧ ∀ c ∈ p.cps.toList, c ∈ cs := by
  have key : ∀ (cs : List Nat) (l : List Str) (n : Nat) (S : List Nat), (∀ p ∈ l, 1 ≤ p.length ∧ p.length ≤ n ∧ ∀ c ∈ p.cps.toList, c ∈ S) → (cs.foldl pc1 l).length ≤ l.length + cs.length ∧ ∀ p ∈ cs.foldl pc1 l, 1 ≤ p.length ∧ p.length ≤ n + cs.length ∧ ∀ c ∈ p.cps.toList, c ∈ S ++ cs := by
    intro cs
    induction cs with
    | nil => intro l n S h; simpa using h
    | cons c cs ih =>
      intro l n S h
      have st : (pc1 l c).length ≤ l.length + 1 ∧ ∀ p ∈ pc1 l c, 1 ≤ p.length ∧ p.length ≤ n + 1 ∧ ∀ d ∈ p.cps.toList, d ∈ S ++ [c] := by
        unfold pc1
        split
        · rename_i q
          have hn := lastLow_ne q.2
          have e2 : l.getLastD (ch 0) = l.getLast hn := by rw [List.getLastD_eq_getLast?, List.getLast?_eq_some_getLast hn]; rfl
          have hm := h _ (List.getLast_mem hn)
          have l1 : (ch c).length = 1 := rfl
          refine ⟨by simp <;> omega, fun p hp => ?_⟩
          rcases List.mem_append.mp hp with hp | hp
          · obtain ⟨a1, a2, a3⟩ := h p (List.dropLast_subset _ hp)
            exact ⟨a1, by omega, fun d hd => List.mem_append.mpr (.inl (a3 d hd))⟩
          · rw [List.mem_singleton.mp hp, e2, str_len_app, cps_app]
            refine ⟨by omega, by omega, fun d hd => ?_⟩
            rcases List.mem_append.mp hd with hd | hd
            · exact List.mem_append.mpr (.inl (hm.2.2 d hd))
            · exact List.mem_append.mpr (.inr hd)
        · have l1 : (ch c).length = 1 := rfl
          refine ⟨by simp, fun p hp => ?_⟩
          rcases List.mem_append.mp hp with hp | hp
          · obtain ⟨a1, a2, a3⟩ := h p hp
            exact ⟨a1, by omega, fun d hd => List.mem_append.mpr (.inl (a3 d hd))⟩
          · rw [List.mem_singleton.mp hp]
            exact ⟨by omega, by omega, fun d hd => List.mem_append.mpr (.inr hd)⟩
      obtain ⟨q1, q2⟩ := ih (pc1 l c) (n + 1) (S ++ [c]) st.2
      rw [List.foldl_cons]
      refine ⟨by have := st.1; simp only [List.length_cons]; omega, fun p hp => ?_⟩
      obtain ⟨a1, a2, a3⟩ := q2 p hp
      exact ⟨a1, by simp only [List.length_cons]; omega, fun d hd => by have := a3 d hd; simpa [List.append_assoc] using this⟩
  obtain ⟨a, b⟩ := key cs [] 0 [] fun p hp => by cases hp
  refine ⟨by simpa using a, fun p hp => ?_⟩
  obtain ⟨b1, b2, b3⟩ := b p hp
  exact ⟨b1, by omega, fun c hc => by simpa using b3 c hc⟩
theorem ok_lpieces {f : Addr} {fd : FuncData} (T0 : Top K mg "_law_pieces" sLPieces pLPieces f fd) (B : Blt mg) : FnOk P w K mg base CX0 1 f fd pLPieces spLPieces := by
  refine T0.F.ok scLPieces (fun vs H Q E h => ?_) (fun cdv A outer s H vs Q E hr h => ?_)
  · obtain ⟨_, rfl, _⟩ := h
    rfl
  · obtain ⟨x, rfl, hx, k⟩ := h
    refine ⟨_, (pss_cons (ps_set (i := 1) scLPieces.nd rfl (Or.inl rfl) (pe_lst pa_nil))
      (pss_cons (ps_for PassesOwn.never rfl (pi_str (pv 0)) (pg_name (i := 2) scLPieces.nd rfl (Or.inl rfl))
      (pss_one (ps_if (PW.pt (pw_and (pt_cmpR op_in_sign (pv 2) pe_str (by rfl)) (pw_and (pt_cmpR (op_neD (hu64 hr)) (pv 1) (pe_lst pa_nil) (nomark _)) (pw_and1 (pt_cmpR op_in_sign (pe_ix ix_str (pe_ix ix_list (pv 1) (pe_un un_neg pe_int) (fun _ _ => rfl)) pe_int (fun _ _ => rfl)) pe_str (by rfl)))))) (pss_one (ps_asg (pe_op op_add_str (pe_ix ix_list (pv 1) (pe_un un_neg pe_int) (fun _ _ => rfl)) (pv 2)) (pg_sub (pv 1) (pe_un un_neg pe_int) set_list))) (pss_one (ps_expr (pe_bm PySem.F.plainAttrs_list PySem.F.slot_list_append PySem.F.type_list_append mt_append (pv 1) (pa_cons (pv 2) pa_nil)))))))
      (pss_one (ps_ret (pv 1))))), ?_⟩
    refine ⟨Nat.zero_le _, fun D hD => ?_⟩
    refine ⟨_, rfl, _, rfl, ?_⟩
    have l1x : x.cps.toList.length = x.length := by show _ = x.cps.size; simp
    refine for_it walk_str (fun i σ H' => ∃ v2 : Option V, σ = [some (.str x), some (.ref D), v2] ∧ Same H H' ∧ H' D = some (.lst (((x.cps.toList.take i).foldl pc1 []).map V.str))) ⟨_, rfl, same_upd hD, upd_same⟩ (fun _ _ _ _ _ => trivial) ?_ ?_
    · rintro i u σ H1 H2 hi ⟨v2, rfl, sm, hd⟩ ⟨rfl, c, hc, rfl⟩
      have hc' : x.cps.toList[i]? = some c := by rw [Array.getElem?_toList]; exact hc
      have eT : (x.cps.toList.take (i + 1)).foldl pc1 [] = pc1 ((x.cps.toList.take i).foldl pc1 []) c := by
        rw [List.take_add_one, hc', List.foldl_append]
        rfl
      rw [eT]
      obtain ⟨ln, lm⟩ := pieces_len (x.cps.toList.take i)
      have li : (x.cps.toList.take i).length ≤ 20000 := by rw [List.length_take]; have := hx.2.1; omega
      generalize hl : (x.cps.toList.take i).foldl pc1 [] = l at hd ln lm ⊢
      have lok : ∀ p ∈ l, TxtOk p := fun p hp => txt_of (fun c hc => hx.1 c (List.mem_of_mem_take ((lm p hp).2.2 c hc))) (by have := (lm p hp).2.1; omega)
      have app : ∀ (H3 : Hp) (w2 : Option V), Same H H3 → H3 D = some (.lst (l.map V.str)) → ∃ L ys y, V.ref D = .ref L ∧ [V.str ⟨#[c]⟩] = [y] ∧ H3 L = some (.lst ys) ∧ ys.length < sizeLine ∧ ∃ v2 : Option V, [some (V.str x), some (.ref D), w2] = [some (.str x), some (.ref D), v2] ∧ Same H (upd H3 L (.lst (ys ++ [y]))) ∧ upd H3 L (.lst (ys ++ [y])) D = some (.lst ((l ++ [ch c]).map V.str)) := by
        intro H3 w2 s3 h3
        refine ⟨D, _, _, rfl, rfl, h3, by rw [List.length_map, sizeLine_eq]; omega, w2, rfl, same_over s3 hD, ?_⟩
        rw [upd_same, List.map_append]
        rfl
      refine ⟨_, rfl, c, abc, rfl, rfl, _, rfl, ?_⟩
      rw [low_mem]
      cases hw : low c with
      | false =>
        rw [pc_sign l hw]
        refine ite2 (fun c => by cases c) fun _ => ite2 (fun c => by cases c) fun _ => ?_
        exact ⟨_, rfl, .inl ⟨rfl, _, SqL.of hd⟩, _, rfl, app _ _ sm hd⟩
      | true =>
        refine iteT ⟨_, rfl, Nat.zero_le _, fun D2 hD2 => ?_⟩
        have hne : D2 ≠ D := fun e => by rw [e, hd] at hD2; cases hD2
        have hd2 : upd H2 D2 (.lst []) D = some (.lst (l.map V.str)) := by rw [upd_ne (Ne.symm hne)]; exact hd
        have sm2 : Same H (upd H2 D2 (.lst [])) := sm.trans (same_upd hD2)
        obtain ⟨da, dl, dd⟩ := strs_dp (K := K) (H := upd H2 D2 (.lst [])) l lok
        refine ⟨_, _, Dp.lst (SqL.of hd2) da, Dp.lst (SqL.of upd_same) .nil, ?_, by decide, _, rfl, ?_⟩
        · unfold SeqAt.shaped
          simp only [PyData.canLay0, PyData.depth, dl, dd]
          decide
        have en : PyData.eqv (.list (l.map PyData.str)) (.list []) = l.isEmpty := by cases l <;> simp [PyData.eqv, PyData.eqvAll]
        rw [en]
        cases hl : l.getLast? with
        | none =>
          obtain rfl := List.getLast?_eq_none_iff.mp hl
          have e : pc1 [] c = [] ++ [ch c] := by unfold pc1; rw [if_neg (by simp [lastLow])]
          rw [e]
          refine ite2 (fun c => by cases c) fun _ => ite2 (fun c => by cases c) fun _ => ?_
          exact ⟨_, rfl, .inl ⟨rfl, _, SqL.of hd2⟩, _, rfl, app _ _ sm2 hd2⟩
        | some p =>
          have hpm : p ∈ l := List.mem_of_getLast? hl
          have hl1 : 1 ≤ l.length := List.length_pos_of_mem hpm
          have he : l.isEmpty = false := by cases l with | nil => cases hpm | cons _ _ => rfl
          have la : atI (l.map V.str) (-1) = some (.str p) := atI_lastA (by rw [List.getLast?_map, hl]; rfl)
          rw [he]
          obtain ⟨p1, p2, p3⟩ := lm p hpm
          obtain ⟨d, hd0⟩ : ∃ d, p.cps.toList[0]? = some d := ⟨_, List.getElem?_eq_getElem (show 0 < p.cps.toList.length by rw [Array.length_toList]; exact p1)⟩
          refine iteT ⟨_, rfl, _, rfl, _, _, _, _, rfl, rfl, SqL.of hd2, la, _, _, _, rfl, rfl, by rw [sizeLine_eq]; omega, atI_nat (j := 0) hd0, d, abc, rfl, rfl, _, rfl, ?_⟩
          rw [low_mem]
          have hh : lastLow l = low d := by
            unfold lastLow
            rw [hl]
            show headLow p = low d
            unfold headLow
            split
            · rename_i e
              rw [e] at hd0
              cases hd0
              rfl
            · rename_i e
              rw [e] at hd0
              cases hd0
          cases hw2 : low d with
          | false =>
            have e : pc1 l c = l ++ [ch c] := by unfold pc1; rw [hh, hw2, if_neg (by simp)]
            rw [e]
            refine ite2 (fun c => by cases c) fun _ => ?_
            exact ⟨_, rfl, .inl ⟨rfl, _, SqL.of hd2⟩, _, rfl, app _ _ sm2 hd2⟩
          | true =>
            have e : pc1 l c = l.dropLast ++ [p ++ ch c] := by unfold pc1; rw [hh, hw2, hw, if_pos ⟨rfl, rfl⟩, List.getLastD_eq_getLast?, hl]; rfl
            rw [e]
            refine iteT ⟨_, rfl, _, rfl, _, _, _, _, rfl, rfl, SqL.of hd2, la, _, rfl, _, _, rfl, rfl, by show _ + 1 ≤ _; rw [sizeLine_eq]; omega, _, rfl, _, rfl, _, _, _, _, rfl, rfl, hd2, ixN_last (by rw [List.length_map]; exact hl1), _, rfl, same_over sm2 hD, ?_⟩
            rw [upd_same, List.length_map, show l.length - 1 = (l.map V.str).length - 1 by rw [List.length_map], set_last _ _ (by simpa using List.ne_nil_of_mem hpm), List.map_append, ← List.map_dropLast]
            rfl
    · rintro σ H1 ⟨v2, rfl, sm, hd⟩
      refine ⟨_, rfl, k D H1 sm hD ?_⟩
      rw [hd]
      have : x.cps.toList.take x.cps.size = x.cps.toList := by
        rw [List.take_of_length_le]
        simp
      rw [this]
      rfl
end
end V1

namespace KT
open PySem PySem.Spec PyProof.Rows L2
def rNotInDT (K : PySem.W.Frag) : R2 := fun x y H Q => ∃ d ds, Dp K H x d ∧ Dp K H y (.tuple ds) ∧ SeqAt.shaped d = true ∧ SeqAt.shaped (.tuple ds) = true ∧ Q (.bl (!ds.any fun z => PyData.eqv z d)) H
theorem op_notInDT {X : Cx} (hu : X.A.units + 65 < cLine) : OpR X (compareOp .NotIn) (rNotInDT X.K) := by
  intro pins s σ H x y v u Q I rx ry h
  obtain ⟨d, ds, hd, he, sd, se, q⟩ := h
  obtain ⟨as, r1⟩ := Dp.reads I d x v hd rx
  obtain ⟨bs, r2⟩ := Dp.reads I (.tuple ds) y u he ry
  exact SeqAt.notIn_tuple_reads r2 r1 (SeqAt.canLay_of_shaped se) (SeqAt.canLay_of_shaped sd) (room_in_shaped sd hu) ⟨.bl _, H, I, rfl, q⟩
end KT
namespace V1
open PySem PySem.Spec PyProof.Rows L2 NdefX LamX KT
open PySem.W (Frag)
theorem cutV_short {xs : List V} {b : Nat} (h : xs.length < b) : cutV xs (some (-(b : Int))) none = xs := by
  unfold cutV
  have e : HT.sIx xs.length xs.length none = xs.length := rfl
  have e2 : HT.sIx xs.length 0 (some (-(b : Int))) = 0 := by
    show (if (-(b : Int)) < 0 then ((-(b : Int)) + (xs.length : Int)).toNat else _) = _
    rw [if_pos (by omega)]
    omega
  rw [e, e2]
  simp
theorem cutV_init {xs : List V} {b : Nat} (h : b ≤ xs.length) (hb : 1 ≤ b) : cutV xs none (some (-(b : Int))) = xs.take (xs.length - b) := by
  unfold cutV
  have e : HT.sIx xs.length 0 none = 0 := rfl
  have e2 : HT.sIx xs.length xs.length (some (-(b : Int))) = xs.length - b := by
    show (if (-(b : Int)) < 0 then ((-(b : Int)) + (xs.length : Int)).toNat else _) = _
    rw [if_pos (by omega)]
    omega
  rw [e, e2]
  simp
theorem eqv_isS (d : D) (z : Str) : PyData.eqv d.py (.str z) = d.isS z := by
  cases d with
  | s y =>
    show (y == z) = decide (y = z)
    rw [Bool.eq_iff_iff, beq_iff_eq, decide_eq_true_eq]
  | i n => simp [D.py, PyData.eqv, D.isS]
  | o => simp [D.py, PyData.eqv, D.isS]
  | t l => simp [D.py, PyData.eqv, D.isS]
theorem signs_sgn (d : D) : ([PyData.str "over", .str "then", .str "under"].any fun z => PyData.eqv z d.py) = d.isSgn := by
  cases d with
  | s y => exact signs_any y
  | i n => exact signs_any0 _ rfl
  | o => exact signs_any0 _ rfl
  | t l => exact signs_any0 _ rfl
theorem clo_pieces (x : Str) : clo (pieces x) ≤ x.cps.toList.count 41 := by
  rw [← pieces_cat x]
  generalize pieces x = l
  induction l with
  | nil => exact Nat.zero_le _
  | cons p r ih =>
    have e1 : clo (p :: r) = clo [p] + clo r := clo_app [p] r
    have e2 : cat (p :: r) = p.cps.toList ++ cat r := rfl
    rw [e1, e2, List.count_append]
    have : clo [p] ≤ p.cps.toList.count 41 := by
      unfold clo
      by_cases c : p = ch 41
      · rw [c]; decide
      · simp [c]
    omega
theorem lp_none : ∀ ps : List Str, ps.foldl lp1 none = none
  | [] => rfl
  | _ :: ps => lp_none ps
def fits (x0 x1 x2 x3 x4 x5 : D) : Bool := x0.isS (ch 40) && x2.isS (ch 32) && x4.isS (ch 32) && x3.isSgn && x1.okp && x5.okp
theorem shut_long (r : List D) (x0 x1 x2 x3 x4 x5 x6 : D) : shut (r ++ [x0, x1, x2, x3, x4, x5, x6]) = if fits x0 x1 x2 x3 x4 x5 = true then some (r ++ [.t [x3, x1, x5]]) else none := by
  unfold shut
  simp only [List.reverse_append, List.reverse_cons, List.reverse_nil, List.nil_append, List.cons_append, List.reverse_reverse]
  rfl
theorem shut_short {st : List D} (h : st.length < 7) : shut st = none := by
  unfold shut
  split
  · rename_i e
    have := congrArg List.length e
    simp only [List.length_reverse, List.length_cons] at this
    omega
  · rfl
section
variable {P : Program} {w : World} {K : Frag} {mg : Str → Option Value} {base : Heap}
def spLKindIn : Sp := fun vs H Q _ => ∃ x : Str, vs = [.str x] ∧ RdOk x ∧ ∀ v' H', Same H H' → DAt H' v' (ofText x) → (ofText x).dep ≤ 60 → (ofText x).size ≤ 60000 → Q v' H'
theorem ok_lkindIn {f fp fi : Addr} {fd fdp fdi : FuncData} (T0 : Top K mg "_law_kind_in" sLKindIn pLKindIn f fd) (TP : Top K mg "_law_pieces" sLPieces pLPieces fp fdp) (TI : Top K mg "_law_is_kind" sLIsKind pLIsKind fi fdi) (B : Blt mg) : FnOk P w K mg base CX0 62 f fd pLKindIn spLKindIn := by
  have GP : FnOk P w K mg base CX0 1 fp fdp pLPieces spLPieces := ok_lpieces TP B
  have GI : FnOk P w K mg base CX0 61 fi fdi pLIsKind (spLIsKind 60) := ok_lisKind TI B 60
  refine T0.F.ok scLKindIn (fun vs H Q E h => ?_) (fun cdv A outer s H vs Q E hr h => ?_)
  · obtain ⟨_, rfl, _⟩ := h
    rfl
  · have hrI := hr
    have hr1 : Room 1 _ := hr.mono (by decide)
    obtain ⟨x, rfl, hx, k⟩ := h
    refine ⟨_, (pss_cons (ps_set (i := 1) scLKindIn.nd rfl (Or.inl rfl) (pe_lst pa_nil))
      (pss_cons (ps_for PassesOwn.never rfl (pi_list (pe_call GP hr1 rfl TP.g TP.F.kp TP.b .nil pass0 (pa_cons (pv 0) pa_nil))) (pg_name (i := 2) scLKindIn.nd rfl (Or.inl rfl))
      (pss_cons (ps_expr (pe_bm PySem.F.plainAttrs_list PySem.F.slot_list_append PySem.F.type_list_append mt_append (pv 1) (pa_cons (pv 2) pa_nil)))
      (pss_one (ps_if (pt_cmpR op_eq (pv 2) pe_str (nomark _)) (pss_cons (ps_set (i := 3) scLKindIn.nd rfl (Or.inl rfl) (pe_slice sl_list (pv 1) (po_some (pe_un un_neg pe_int)) po_none))
      (pss_cons (ps_if (PW.pt (pw_or (pt_cmpR op_lt (pe_callB call_len_seq (by rfl) B.len PySem.boot_len (pa_cons (pv 3) pa_nil)) pe_int (nomark _)) (pw_or (pt_cmpR (op_neD (hu64 hr)) (pe_ix ix_list (pv 3) pe_int (fun _ _ => rfl)) pe_str (nomark _)) (pw_or (pt_cmpR (op_neD (hu64 hr)) (pe_ix ix_list (pv 3) pe_int (fun _ _ => rfl)) pe_str (nomark _)) (pw_or (pt_cmpR (op_neD (hu64 hr)) (pe_ix ix_list (pv 3) pe_int (fun _ _ => rfl)) pe_str (nomark _)) (pw_or1 (pt_cmpR (KT.op_notInDT (hu65 hr)) (pe_ix ix_list (pv 3) pe_int (fun _ _ => rfl)) (pe_tup (pa_cons pe_str (pa_cons pe_str (pa_cons pe_str pa_nil)))) (by rfl)))))))) (pss_one (ps_ret pe_non)) pss_nil)
      (pss_cons (ps_if (pt_not (pt_val (pe_callB (cr_all rfl) (by rfl) B.all (by decide +kernel) (pa_cons (pe_lc (own := [("part", 4)]) (g := (gName 4)) (tt := tYes) rfl scLKindIn.nd (pi_tup (pe_tup (pa_cons (pe_ix ix_list (pv 3) pe_int (fun _ _ => rfl)) (pa_cons (pe_ix ix_list (pv 3) pe_int (fun _ _ => rfl)) pa_nil)))) (blkOk_by (N := nLKindIn) (sc := defScope sLKindIn) (by decide +kernel)) (fun _ _ _ _ _ => pg_name (i := 4) scLKindIn.nd rfl (Or.inl rfl)) (fun _ _ _ _ _ => pts_nil) (fun _ _ _ _ _ => (pe_or (pe_callB (show CallR _ (.builtin "isinstance") (rIsi K) from call_isi) (by rfl) B.isi (by decide +kernel) (pa_cons (pv 4) (pa_cons (pe_bltn (v := .ty "tuple") (by rfl) B.tuple (by decide +kernel) rfl) pa_nil))) (pe_one (pe_call GI hrI rfl TI.g TI.F.kp TI.b .nil pass0 (pa_cons (pv 4) pa_nil)))))) pa_nil)))) (pss_one (ps_ret pe_non)) pss_nil)
      (pss_one (ps_set (i := 1) scLKindIn.nd rfl (Or.inl rfl) (pe_op op_cat (pe_slice sl_list (pv 1) po_none (po_some (pe_un un_neg pe_int))) (pe_lst (pa_cons (pe_tup (pa_cons (pe_ix ix_list (pv 3) pe_int (fun _ _ => rfl)) (pa_cons (pe_ix ix_list (pv 3) pe_int (fun _ _ => rfl)) (pa_cons (pe_ix ix_list (pv 3) pe_int (fun _ _ => rfl)) pa_nil)))) pa_nil)))))))) pss_nil))))
      (pss_cons (ps_if (pt_cmpR op_ne (pe_callB call_len_seq (by rfl) B.len PySem.boot_len (pa_cons (pv 1) pa_nil)) pe_int (nomark _)) (pss_one (ps_ret pe_non)) pss_nil)
      (pss_one (ps_ret (pe_ifExp (pt_val (pe_call GI hrI rfl TI.g TI.F.kp TI.b .nil pass0 (pa_cons (pe_ix ix_list (pv 1) pe_int (fun _ _ => rfl)) pa_nil))) (pe_ix ix_list (pv 1) pe_int (fun _ _ => rfl)) pe_non)))))), ?_⟩
    have nx : lawD x = .o → ∀ H', Same H H' → Q .non H' := fun e H' s => by
      rw [← lawD_is x, e] at k
      exact k .non H' s .o (by simp [D.dep]) (by simp [D.size])
    refine ⟨Nat.zero_le _, fun L0 hL0 => ?_⟩
    refine ⟨_, rfl, x, rfl, hx, fun p H1 s1 np eP => ⟨p, rfl, ⟨_, SqL.of eP⟩, ?_⟩⟩
    have nL0p : L0 ≠ p := ne_of_none upd_same np
    have lp : (pieces x).length ≤ 20000 := Nat.le_trans (pieces_len x.cps.toList).1 (by rw [Array.length_toList]; exact hx.2.1)
    have pok : ∀ z ∈ pieces x, TxtOk z := fun z hz => by
      obtain ⟨_, b, c⟩ := (pieces_len x.cps.toList).2 z hz
      rw [Array.length_toList] at b
      exact txt_of (fun d hd => hx.1 d (c d hd)) (Nat.le_trans b (Nat.le_trans hx.2.1 (by decide)))
    refine for_list (K := K) (xs := (pieces x).map V.str) (fun i σ H' => ∃ (L : Addr) (v2 v3 v4 : Option V) (st : List D) (vs : List V), σ = [some (.str x), some (.ref L), v2, v3, v4] ∧ Same H H' ∧ H L = none ∧ L ≠ p ∧ H' p = some (.lst ((pieces x).map V.str)) ∧ H' L = some (.lst vs) ∧ DsAt H' vs st ∧ ((pieces x).take i).foldl lp1 (some []) = some st ∧ sizeAll st ≤ 2 * i ∧ st.length ≤ i ∧ ∀ u ∈ st, u.dep ≤ clo ((pieces x).take i))
      ⟨L0, none, none, none, [], [], rfl, (same_upd hL0).trans s1, hL0, nL0p, eP, s1 _ _ upd_same, .nil, by simp, by simp [sizeAll], by simp, fun u hu => by cases hu⟩ (fun i σ H' _ ⟨_, _, _, _, _, _, _, _, _, _, e, _⟩ => SqL.of e) ?_ ?_
    · rintro i y σ H' hy ⟨L, v2, v3, v4, st, vs, rfl, sH, nL, nLp, ePp, eW, hD, hf, hz, hn, hdp⟩
      rw [List.getElem?_map] at hy
      obtain ⟨z, hzi, rfl⟩ := Option.map_eq_some_iff.mp hy
      obtain ⟨hi, _⟩ := List.getElem?_eq_some_iff.mp hzi
      have mz := List.mem_of_getElem? hzi
      have lv := hD.length
      have tk1 : (pieces x).take (i + 1) = (pieces x).take i ++ [z] := by rw [List.take_add_one, hzi]; rfl
      have hf1 : ((pieces x).take (i + 1)).foldl lp1 (some []) = lp1 (some st) z := by rw [tk1, List.foldl_append, hf]; rfl
      have hcl : clo ((pieces x).take (i + 1)) = clo ((pieces x).take i) + clo [z] := by rw [tk1, clo_app]
      have hc50 : clo ((pieces x).take (i + 1)) ≤ 50 := by
        refine Nat.le_trans ?_ (Nat.le_trans (clo_pieces x) hx.2.2)
        conv => rhs; rw [← List.take_append_drop (i + 1) (pieces x), clo_app]
        omega
      have tkW : TK H' (upd H' L (.lst (vs ++ [.str z]))) := TK.upd_lst eW
      have hD1 : DsAt (upd H' L (.lst (vs ++ [.str z]))) (vs ++ [.str z]) (st ++ [.s z]) := (hD.mono tkW).append (.cons (.s (pok z mz)) .nil)
      have sH1 : Same H (upd H' L (.lst (vs ++ [.str z]))) := same_over sH nL
      have eP1 : upd H' L (.lst (vs ++ [.str z])) p = some (.lst ((pieces x).map V.str)) := by rw [upd_ne nLp.symm]; exact ePp
      refine ⟨_, rfl, .inl ⟨rfl, _, SqL.of eW⟩, _, rfl, L, _, .str z, rfl, rfl, eW, by rw [lv, sizeLine_eq]; omega, ?_⟩
      by_cases c : z = ch 41
      · refine ⟨_, rfl, rfl, true, congrArg V.bl (by rw [lit41]; simp [c]), iteT ?_⟩
        have hl1 := hf1
        rw [show lp1 (some st) z = shut (st ++ [.s z]) by simp [lp1, c]] at hl1
        have dead : shut (st ++ [.s z]) = none → lawD x = .o := fun e => by
          have q : (pieces x).foldl lp1 (some []) = none := by
            rw [← List.take_append_drop (i + 1) (pieces x), List.foldl_append, hl1, e, lp_none]
          unfold lawD
          rw [q]
        refine ⟨_, rfl, _, rfl, _, rfl, L, _, rfl, SqL.of upd_same, fun S nS => ?_⟩
        have lv1 := hD1.length
        have eL1 := upd_same (H := H') (a := L) (o := .lst (vs ++ [V.str z]))
        have hz1 : sizeAll (st ++ [.s z]) ≤ 2 * i + 2 := by
          rw [sizeAll_app]
          simp only [sizeAll, D.size]
          omega
        have hn1 : (st ++ [D.s z]).length ≤ i + 1 := by rw [List.length_append]; simp only [List.length_cons, List.length_nil]; omega
        have hdp1 : ∀ u ∈ st ++ [D.s z], u.dep ≤ clo ((pieces x).take i) := fun u hu => by
          rcases List.mem_append.mp hu with hu | hu
          · exact hdp u hu
          · rw [List.mem_singleton.mp hu]
            simp [D.dep]
        have hc1 : clo ((pieces x).take (i + 1)) = clo ((pieces x).take i) + 1 := by rw [hcl, c]; rfl
        generalize vs ++ [V.str z] = vs1 at *
        generalize st ++ [D.s z] = st1 at *
        generalize upd H' L (.lst vs1) = H1' at *
        by_cases c7 : vs1.length < 7
        · have ecut : cutV vs1 (some (-7)) none = vs1 := cutV_short (b := 7) c7
          rw [ecut]
          refine ⟨_, rfl, S, _, rfl, .inl (SqL.of upd_same), _, _, rfl, rfl, _, rfl, ?_⟩
          rw [decide_eq_true (show ((vs1.length : Nat) : Int) < 7 by omega)]
          exact iteT (iteT (nx (dead (shut_short (by omega))) _ (sH1.trans (same_upd nS))))
        · have ecut : cutV vs1 (some (-7)) none = vs1.drop (vs1.length - 7) := KT.cutV_last4 (b := 7) (by omega) (by decide)
          rw [ecut]
          have est : st1 = st1.take (st1.length - 7) ++ st1.drop (st1.length - 7) := (List.take_append_drop _ _).symm
          obtain ⟨u0, u1, u2, u3, u4, u5, u6, e7⟩ : ∃ u0 u1 u2 u3 u4 u5 u6, st1.drop (st1.length - 7) = [u0, u1, u2, u3, u4, u5, u6] := by
            have l4 : (st1.drop (st1.length - 7)).length = 7 := by rw [List.length_drop]; omega
            match st1.drop (st1.length - 7), l4 with
            | [a, b, c, d, e, f, g], _ => exact ⟨a, b, c, d, e, f, g, rfl⟩
          obtain ⟨D1, D2⟩ := DsAt.split (us := vs1) (by rw [← est]; exact hD1)
          have elt : (st1.take (st1.length - 7)).length = vs1.length - 7 := by rw [List.length_take]; omega
          rw [elt] at D1 D2
          rw [e7] at D2 est
          obtain ⟨y0, y1, y2, y3, y4, y5, y6, ed⟩ : ∃ y0 y1 y2 y3 y4 y5 y6, vs1.drop (vs1.length - 7) = [y0, y1, y2, y3, y4, y5, y6] := by
            have l4 : (vs1.drop (vs1.length - 7)).length = 7 := by rw [List.length_drop]; omega
            match vs1.drop (vs1.length - 7), l4 with
            | [a, b, c, d, e, f, g], _ => exact ⟨a, b, c, d, e, f, g, rfl⟩
          rw [ed] at D2 ⊢
          have hsh := shut_long (st1.take (st1.length - 7)) u0 u1 u2 u3 u4 u5 u6
          rw [← est] at hsh
          have bad : fits u0 u1 u2 u3 u4 u5 = false → ∀ H', Same H H' → Q .non H' := fun e => nx (dead (by rw [hsh, e]; rfl))
          have mem7 : ∀ u ∈ [u0, u1, u2, u3, u4, u5, u6], u ∈ st1 := fun u hu => by rw [est]; exact List.mem_append.mpr (.inr hu)
          have dp7 : ∀ u ∈ [u0, u1, u2, u3, u4, u5, u6], u.dep ≤ 50 := fun u hu => by have := hdp1 u (mem7 u hu); omega
          have sS := same_upd (o := .lst [y0, y1, y2, y3, y4, y5, y6]) nS
          have eS := upd_same (H := H1') (a := S) (o := .lst [y0, y1, y2, y3, y4, y5, y6])
          have nLS : L ≠ S := ne_of_none eL1 nS
          generalize upd H1' S (.lst [y0, y1, y2, y3, y4, y5, y6]) = H2 at sS eS ⊢
          have hD2 : DsAt H2 [y0, y1, y2, y3, y4, y5, y6] [u0, u1, u2, u3, u4, u5, u6] := D2.mono (TK.of_same sS)
          have at7 : ∀ {j : Nat} {v : V} {u : D}, [y0, y1, y2, y3, y4, y5, y6][j]? = some v → [u0, u1, u2, u3, u4, u5, u6][j]? = some u → DAt H2 v u := fun {j v u} e1 e2 => by
            obtain ⟨u', e3, h⟩ := hD2.at_ e1
            rw [e2] at e3
            cases e3
            exact h
          have k0 := at7 (j := 0) rfl rfl
          have k1 := at7 (j := 1) rfl rfl
          have k2 := at7 (j := 2) rfl rfl
          have k3 := at7 (j := 3) rfl rfl
          have k4 := at7 (j := 4) rfl rfl
          have k5 := at7 (j := 5) rfl rfl
          have sH2 := sH1.trans sS
          refine ⟨_, rfl, S, _, rfl, .inl (SqL.of eS), _, _, rfl, rfl, _, rfl, ?_⟩
          rw [decide_eq_false (show ¬ (([y0, y1, y2, y3, y4, y5, y6].length : Nat) : Int) < 7 by simp)]
          refine iteF ⟨_, rfl, S, _, _, _, rfl, rfl, SqL.of eS, atI_nat (j := 0) rfl, u0.py, _, (DAt.py (K := K) k0).1, .str _, DAt.shaped (K := K) k0 (Nat.le_trans (dp7 u0 (by simp)) (by decide)), by decide +kernel, _, rfl, ?_⟩
          rw [eqv_isS, lit40]
          cases q0 : u0.isS (ch 40) with
          | false => exact iteT (iteT (bad (by simp [fits, q0]) _ sH2))
          | true =>
          refine iteF ⟨_, rfl, S, _, _, _, rfl, rfl, SqL.of eS, atI_nat (j := 2) rfl, u2.py, _, (DAt.py (K := K) k2).1, .str _, DAt.shaped (K := K) k2 (Nat.le_trans (dp7 u2 (by simp)) (by decide)), by decide +kernel, _, rfl, ?_⟩
          rw [eqv_isS, lit32]
          cases q2 : u2.isS (ch 32) with
          | false => exact iteT (iteT (bad (by simp [fits, q2]) _ sH2))
          | true =>
          refine iteF ⟨_, rfl, S, _, _, _, rfl, rfl, SqL.of eS, atI_nat (j := 4) rfl, u4.py, _, (DAt.py (K := K) k4).1, .str _, DAt.shaped (K := K) k4 (Nat.le_trans (dp7 u4 (by simp)) (by decide)), by decide +kernel, _, rfl, ?_⟩
          rw [eqv_isS]
          cases q4 : u4.isS (ch 32) with
          | false => exact iteT (iteT (bad (by simp [fits, q4]) _ sH2))
          | true =>
          refine iteF ⟨_, rfl, S, _, _, _, rfl, rfl, SqL.of eS, atI_nat (j := 3) rfl, by show 3 ≤ sizeLine; rw [sizeLine_eq]; omega, fun tq ntq => ?_⟩
          have k3' := k3.mono (TK.of_same (same_upd (o := .tup [.str "over", .str "then", .str "under"]) ntq))
          refine ⟨u3.py, [.str "over", .str "then", .str "under"], (DAt.py (K := K) k3').1, .tup (SqT.of upd_same) (.cons (.str _) (.cons (.str _) (.cons (.str _) .nil))), DAt.shaped (K := K) k3' (Nat.le_trans (dp7 u3 (by simp)) (by decide)), by decide +kernel, _, rfl, ?_⟩
          rw [signs_sgn]
          have s23 := same_upd (o := .tup [.str "over", .str "then", .str "under"]) ntq
          generalize upd H2 tq (.tup [.str "over", .str "then", .str "under"]) = H3 at s23 ⊢
          have sH3 := sH2.trans s23
          have eS3 := s23 _ _ eS
          cases q3 : u3.isSgn with
          | false => exact iteT (bad (by simp [fits, q3]) _ sH3)
          | true =>
          refine iteF ?_
          refine ⟨_, rfl, S, _, _, _, rfl, rfl, SqL.of eS3, atI_nat (j := 1) rfl, _, rfl, S, _, _, _, rfl, rfl, SqL.of eS3, atI_nat (j := 5) rfl, by show 2 ≤ sizeLine; rw [sizeLine_eq]; omega, fun t5 n5 => ⟨t5, rfl, ⟨_, SqT.of upd_same⟩, fun W nW => ?_⟩⟩
          have s34 := same_upd (o := .tup [y1, y5]) n5
          have e5 := upd_same (H := H3) (a := t5) (o := .tup [y1, y5])
          generalize upd H3 t5 (.tup [y1, y5]) = H4 at s34 e5 nW ⊢
          have sH4 := sH3.trans s34
          have eS4 := s34 _ _ eS3
          have tk24 := TK.of_same (s23.trans s34)
          have hDs : DsAt H4 [y1, y5] [u1, u5] := .cons (k1.mono tk24) (.cons (k5.mono tk24) .nil)
          refine lc_it walk_tup (fun i H'' => Same H4 H'' ∧ H'' W = some (.lst ((([u1, u5].map D.okp).take i).map V.bl))) ⟨same_upd nW, upd_same⟩ (fun _ _ _ h => SqT.of (h.1 _ _ e5)) ?_ ?_
          · rintro j v Ha Hb hj ⟨sa, ea⟩ ⟨rfl, hv⟩
            obtain ⟨u, hu, hvu⟩ := hDs.at_ hv
            have hvu' := hvu.mono (TK.of_same sa)
            have mu : u ∈ [u1, u5] := List.mem_of_getElem? hu
            have edj : (([u1, u5].map D.okp).take (j + 1)).map V.bl = (([u1, u5].map D.okp).take j).map V.bl ++ [.bl u.okp] := by
              rw [List.take_add_one, List.getElem?_map, hu, List.map_append]
              rfl
            have jl : ((([u1, u5].map D.okp).take j).map V.bl).length < sizeLine := by
              rw [List.length_map, List.length_take, sizeLine_eq]
              simp only [List.length_map, List.length_cons, List.length_nil]
              omega
            refine ⟨rfl, _, rfl, _, _, _, _, u.isTup, rfl, .ty "tuple", hvu'.tyx, u.ktup, _, rfl, ?_⟩
            cases ct : u.isTup with
            | true =>
              have eo : u.okp = true := by simp [D.okp, ct]
              exact iteT ⟨_, ea, jl, same_over sa nW, by rw [upd_same, edj, eo]⟩
            | false =>
              have eo : u.okp = u.isKd := by simp [D.okp, ct]
              have du : u.dep ≤ 60 := Nat.le_trans (dp7 u (by rcases List.mem_cons.mp mu with rfl | mu; · simp
                                                              · rw [List.mem_singleton.mp mu]; simp)) (by decide)
              exact iteF ⟨_, rfl, v, u, rfl, hvu', du, fun H5 s5 => ⟨_, s5 _ _ ea, jl, same_over (sa.trans s5) nW, by rw [upd_same, edj, eo]⟩⟩
          · rintro H5 ⟨s5, e5'⟩
            have sH5 := sH4.trans s5
            refine ⟨_, [u1.okp, u5.okp], rfl, SqL.of e5', _, rfl, ?_⟩
            have ea : [u1.okp, u5.okp].all id = (u1.okp && u5.okp) := by simp
            rw [ea]
            cases qo : u1.okp && u5.okp with
            | false =>
              refine iteT (bad ?_ _ sH5)
              rcases Bool.and_eq_false_iff.mp qo with q | q <;> simp [fits, q]
            | true =>
            have hfit : fits u0 u1 u2 u3 u4 u5 = true := by
              obtain ⟨a, b⟩ := Bool.and_eq_true_iff.mp qo
              simp [fits, q0, q2, q3, q4, a, b]
            have tk25 := TK.of_same ((s23.trans s34).trans s5)
            have s15 := sS.trans ((s23.trans s34).trans s5)
            have eL5 := s15 _ _ eL1
            have eS5 := s5 _ _ eS4
            refine iteF ⟨_, rfl, _, rfl, _, rfl, L, vs1, rfl, SqL.of eL5, fun S2 n2 => ?_⟩
            have ecut2 : cutV vs1 none (some (-7)) = vs1.take (vs1.length - 7) := cutV_init (b := 7) (by omega) (by decide)
            rw [ecut2]
            have s56 := same_upd (o := .lst (vs1.take (vs1.length - 7))) n2
            have eS2 := upd_same (H := H5) (a := S2) (o := .lst (vs1.take (vs1.length - 7)))
            generalize upd H5 S2 (.lst (vs1.take (vs1.length - 7))) = H6 at s56 eS2 ⊢
            have eS6 := s56 _ _ eS5
            refine ⟨_, rfl, S, _, _, _, rfl, rfl, SqL.of eS6, atI_nat (j := 3) rfl, _, rfl, S, _, _, _, rfl, rfl, SqL.of eS6, atI_nat (j := 1) rfl, _, rfl, S, _, _, _, rfl, rfl, SqL.of eS6, atI_nat (j := 5) rfl, by show 3 ≤ sizeLine; rw [sizeLine_eq]; omega, fun tp ntp => ⟨by show 1 ≤ sizeLine; rw [sizeLine_eq]; omega, fun S3 n3 => ?_⟩⟩
            have s67 := same_upd (o := .tup [y3, y1, y5]) ntp
            have etp := upd_same (H := H6) (a := tp) (o := .tup [y3, y1, y5])
            generalize upd H6 tp (.tup [y3, y1, y5]) = H7 at s67 etp n3 ⊢
            have s78 := same_upd (o := .lst [.ref tp]) n3
            refine ⟨S2, S3, _, _, rfl, rfl, (s67.trans s78) _ _ eS2, upd_same, by rw [List.length_take, sizeLine_eq]; simp only [List.length_cons, List.length_nil]; omega, fun S4 n4 => ?_⟩
            generalize upd H7 S3 (.lst [.ref tp]) = H8 at s78 n4 ⊢
            have s89 := same_upd (o := .lst (vs1.take (vs1.length - 7) ++ [.ref tp])) n4
            have eS4 := upd_same (H := H8) (a := S4) (o := .lst (vs1.take (vs1.length - 7) ++ [.ref tp]))
            generalize upd H8 S4 (.lst (vs1.take (vs1.length - 7) ++ [.ref tp])) = H9 at s89 eS4 ⊢
            have s59 := s56.trans ((s67.trans s78).trans s89)
            have sH9 := sH5.trans s59
            have tk19 := TK.of_same (s15.trans s59)
            have tk29 := tk25.trans (TK.of_same s59)
            have s18 := s15.trans (s56.trans (s67.trans s78))
            have eP9 := (s15.trans s59) _ _ eP1
            have nS4 : H S4 = none := (sH1.trans s18).free n4
            have nS4p : S4 ≠ p := fun e => by rw [e, s18 _ _ eP1] at n4; cases n4
            refine ⟨S4, _, _, _, st1.take (st1.length - 7) ++ [.t [u3, u1, u5]], _, rfl, sH9, nS4, nS4p, eP9, eS4, (D1.mono tk19).append (.cons (.t ((s78.trans s89) _ _ etp) (.cons (k3.mono tk29) (.cons (k1.mono tk29) (.cons (k5.mono tk29) .nil)))) .nil), ?_, ?_, ?_, fun u hu => ?_⟩
            · rw [hl1, hsh, hfit]
              rfl
            · have hsz : sizeAll st1 = sizeAll (st1.take (st1.length - 7)) + (u0.size + (u1.size + (u2.size + (u3.size + (u4.size + (u5.size + (u6.size + 0))))))) := by
                conv => lhs; rw [est]
                rw [sizeAll_app]
                rfl
              rw [sizeAll_app]
              simp only [sizeAll, D.size]
              have := u0.size_pos
              omega
            · rw [List.length_append, List.length_take]
              simp only [List.length_cons, List.length_nil]
              omega
            · rw [hc1]
              rcases List.mem_append.mp hu with hu | hu
              · have := hdp1 u (List.mem_of_mem_take hu)
                omega
              · rw [List.mem_singleton.mp hu]
                have q1 := hdp1 u1 (mem7 u1 (by simp))
                have q3 := hdp1 u3 (mem7 u3 (by simp))
                have q5 := hdp1 u5 (mem7 u5 (by simp))
                simp only [D.dep, depAll]
                omega
      · refine ⟨_, rfl, rfl, false, congrArg V.bl (by rw [lit41]; simp [c]), iteF ?_⟩
        refine ⟨L, _, _, _, st ++ [.s z], vs ++ [.str z], rfl, sH1, nL, nLp, eP1, upd_same, hD1, by rw [hf1]; simp [lp1, c], ?_, ?_, fun u hu => ?_⟩
        · rw [sizeAll_app]
          simp only [sizeAll, D.size]
          omega
        · rw [List.length_append]
          simp only [List.length_cons, List.length_nil]
          omega
        · rw [hcl]
          rcases List.mem_append.mp hu with hu | hu
          · have := hdp u hu
            omega
          · rw [List.mem_singleton.mp hu]
            simp [D.dep]
    · rintro σ H' ⟨L, v2, v3, v4, st, vs, rfl, sH, nL, nLp, ePp, eW, hD, hf, hz, hn, hdp⟩
      rw [List.length_map] at hz hn
      rw [List.length_map, List.take_length] at hf hdp
      have lv := hD.length
      have hcp := Nat.le_trans (clo_pieces x) hx.2.2
      have e0 : lawD x = (match some st with | some [d] => if d.isKd = true then d else .o | _ => D.o) := by
        unfold lawD
        rw [show (pieces x).foldl lp1 (some []) = some st from hf] <;> (rcases st with _ | ⟨a, _ | ⟨b, r⟩⟩ <;> rfl)
      refine ⟨_, rfl, L, vs, rfl, .inl (SqL.of eW), rfl, ?_⟩
      match st, vs, hD, e0, hdp, hz with
      | [d], [v], .cons hd .nil, e0, hdp, hz =>
        have h1 := hdp d List.mem_cons_self
        simp only [sizeAll] at hz
        refine ⟨false, congrArg V.bl (by simp), iteF ⟨_, rfl, L, _, _, _, rfl, rfl, SqL.of eW, atI_nat (j := 0) rfl, v, d, rfl, hd, by omega, fun H2 s2 => ⟨_, rfl, ?_⟩⟩⟩
        rw [← lawD_is] at k
        cases q : d.isKd with
        | true =>
          have e1 : lawD x = d := by rw [e0]; simp [q]
          rw [e1] at k
          exact iteT ⟨_, rfl, L, _, _, _, rfl, rfl, SqL.of (s2 _ _ eW), atI_nat (j := 0) rfl, k _ _ (sH.trans s2) (hd.mono (TK.of_same s2)) (by omega) (by omega)⟩
        | false =>
          have e1 : lawD x = .o := by rw [e0]; simp [q]
          exact iteF (nx e1 _ (sH.trans s2))
      | [], [], .nil, e0, hdp, hz => exact ⟨true, congrArg V.bl (by simp), iteT (nx e0 _ sH)⟩
      | d1 :: d2 :: ds, v1 :: v2 :: vs, .cons _ (.cons _ r), e0, hdp, hz => exact ⟨true, congrArg V.bl (by simp; omega), iteT (nx e0 _ sH)⟩
end
end V1

namespace XE
open PySem PySem.Spec PyProof.Rows L2 KT
open PySem.W (Frag)
section
variable {X : Cx} {CX : CXT} {k : Nat} {f : Addr} {fd : FuncData} {ps ks : List Str} {sp : Sp} {E : L2.St → XK} {g : List Value → List Value → List Value} {gV : List V → List V → List V} {σ : L2.St}
theorem run_fnkS {pins : List (Addr × Obj)} {H : Hp} {s : Shared} {Q : VK} {us ws : List Value} {vs zs : List V} (F : FnOk X.prog X.w X.K X.mg X.base CX k f fd ps sp) (hr : Room k X.A) (hb : KBinds X.K fd ps ks g gV) (hx : PassesAt CX X σ (E σ))
    (I : Inv X pins σ H s) (r : Vals vs us) (rz : Vals zs ws) (h : sp (gV vs zs) H Q (E σ)) : wpAny (model X.prog X.w) X.A (call (.ref f) us (ks.zip ws)) (EP X pins σ Q) X.xe s := by
  have r2 := hb.rel r rz
  have hl : (g us ws).length = ps.length := by rw [← r2.length]; exact F.len _ _ _ _ h
  refine wpAny_call (codeAny_mono (F.run X.A X.stack s H ⟨us, ks.zip ws⟩ (g us ws) (gV vs zs) Q (E σ) hr I.env0 (hb.to s us ws I.kIn hl) r2 h) fun r s' hq => ?_)
  cases r with
  | error e => exact hx pins H s e s' I hq
  | ok fl =>
    cases fl with
    | ret u => exact I.after hq
    | next => exact False.elim hq
    | brk => exact False.elim hq
    | cont => exact False.elim hq
/-- d[k](x = e, ..): one of the defs f j -/
theorem pe_callDK {ι : Type} {kj : ι → Nat} {fj : ι → Addr} {fdj : ι → FuncData} {psj : ι → List Str} {spj : ι → Sp} {gj : ι → List Value → List Value → List Value} {gVj : ι → List V → List V → List V} {d i : Expr} {dp pos : Pos} {tf : TE} {tk : TA} {kws : List Keyword}
    (F : ∀ j, FnOk X.prog X.w X.K X.mg X.base CX (kj j) (fj j) (fdj j) (psj j) (spj j)) (hr : ∀ j, Room (kj j) X.A) (hk : ∀ j, PySem.W.keepIn X.K (.ref (fj j)) = true) (hb : ∀ j, KBinds X.K (fdj j) (psj j) ks (gj j) (gVj j)) (hx : ∀ σ, PassesAt CX X σ (E σ))
    (hf : PE X (.Subscript d i dp) tf) (hkw : PK X kws tk) (hall : (backToKw pos (keywordEach kws X.env)).all (·.1.isSome) = true := by rfl) (hks : (backToKw pos (keywordEach kws X.env)).filterMap (·.1) = ks := by rfl)
    (hpl : ((backTo pos (starEach [] X.env)).any (·.1) || (backToKw pos (keywordEach kws X.env)).any (·.1.isNone)) = false := by rfl) :
    PE X (.Call (.Subscript d i dp) [] kws pos) (fun σ H Q => tf σ H fun v H1 => ∃ j, v = .ref (fj j) ∧ tk σ H1 fun zs H2 => spj j (gVj j [] zs) H2 Q (E σ)) := by
  refine ⟨fun pins s σ H Q I h => ?_⟩
  have arm : eval (.Call (.Subscript d i dp) [] kws pos) X.env = (do callWith pos (← eval (.Subscript d i dp) X.env) [] (backTo pos (starEach [] X.env)) (backToKw pos (keywordEach kws X.env))) := rfl
  rw [arm]
  refine wpAny_bind (thn (hf.run pins s σ H _ I h) fun u s1 ⟨v, H1, I1, r1, j, ev, q1⟩ => ?_)
  subst ev
  obtain rfl : u = Value.ref (fj j) := r1
  refine PySem.W.callWith_KW0 (h₀ := X.base) I1.ok.mod.kin (hk j) hall (thn (hkw.run pos pins s1 σ H1 _ I1 q1) fun ws s2 ⟨zs, H2, I2, rz, q2⟩ => ⟨I2.kIn, ?_⟩) hpl
  rw [hks]
  exact run_fnkS (us := []) (F j) (hr j) (hb j) (hx σ) I2 .nil rz q2
end
end XE

namespace V1
open PySem PySem.Spec PyProof.Rows L2 NdefX LamX KT
open PySem.W (Frag)
/-! ### the answer of a reading -/
inductive Way
  | kind
  | row
  | kinds
def Way.nm : Way → Str
  | .kind => "kind"
  | .row => "row"
  | .kinds => "kinds"
def Way.sep : Way → Option Str
  | .kind => none
  | .row => some (", " : Str)
  | .kinds => some ("\n" : Str)
def wayKvs (fk fr fs : Addr) : List (Key × V) := [(Sum.inr "kind", .ref fk), (Sum.inr "row", .ref fr), (Sum.inr "kinds", .ref fs)]
def Way.pick (fk fr fs : Addr) : Way → Addr
  | .kind => fk
  | .row => fr
  | .kinds => fs
theorem way_get (fk fr fs : Addr) (wy : Way) : valV (mergeK [] (wayKvs fk fr fs)) (Sum.inr wy.nm) = some (.ref (wy.pick fk fr fs)) := by
  have a : decide ((Sum.inr ("kind" : Str) : Key) = Sum.inr ("row" : Str)) = false := by decide +kernel
  have b : decide ((Sum.inr ("kind" : Str) : Key) = Sum.inr ("kinds" : Str)) = false := by decide +kernel
  have c : decide ((Sum.inr ("row" : Str) : Key) = Sum.inr ("kinds" : Str)) = false := by decide +kernel
  have d : decide ((Sum.inr ("row" : Str) : Key) = Sum.inr ("kind" : Str)) = false := by decide +kernel
  have m : mergeK [] (wayKvs fk fr fs) = wayKvs fk fr fs := by
    unfold mergeK wayKvs
    simp only [List.foldl_cons, List.foldl_nil, putK, List.any_nil, List.any_cons, a, b, c, Bool.false_or, Bool.or_false, if_neg (show ¬ false = true by decide), List.nil_append, List.cons_append]
  rw [m]
  unfold valV wayKvs
  cases wy
  · simp only [Way.nm, List.find?_cons, decide_true]
    rfl
  · simp only [Way.nm, List.find?_cons, decide_true, a]
    rfl
  · simp only [Way.nm, List.find?_cons, decide_true, b, c]
    rfl
/-- at L the answer to x, read so -/
def AnsAt (H : Hp) (L : Addr) (x : Str) : Option Str → Prop
  | none => (isNoD (ofText x) = true ∧ H L = some (.lst [.str "refused", .str x])) ∨ (isNoD (ofText x) = false ∧ ∃ v, H L = some (.lst [v]) ∧ DAt H v (ofText x))
  | some sp => ((ofTexts sp x).any isNoD = true ∧ H L = some (.lst [.str "refused", .str x])) ∨ ((ofTexts sp x).any isNoD = false ∧ ∃ M us, H L = some (.lst [.ref M]) ∧ H M = some (.lst us) ∧ DsAt H us (ofTexts sp x))
section
variable {P : Program} {w : World} {K : Frag} {mg : Str → Option Value} {base : Heap} {T : List (Addr × Str)} {C fI : Addr}
abbrev tValK (K : Frag) (i : Nat) : TE := fun σ H Q => tVar i σ H fun x H1 => ∃ (C e : Addr) (v : V), x = .ref e ∧ XE.KErr H1 C e v ∧ XfC K C ∧ PySem.W.findIn K (.ref C) "value" = some none ∧ Q v H1
def spLRead (T : List (Addr × Str)) : Sp := fun vs H Q _ => ∃ (wy : Way) (x : Str), vs = [.str wy.nm, .str x] ∧ RdOk x ∧ Tabs T H ∧ ∀ L H', ExtN H H' → Tabs T H' → AnsAt H' L x wy.sep → Q (.ref L) H'
theorem ok_lread {f fk fr fs : Addr} {fd fdk fdr fds : FuncData} (T0 : Top K mg "_law_read" sLRead pLRead f fd) (TK_ : Top K mg "read_kind" sReadKind pReadKind fk fdk) (GK : FnOk P w K mg base (L2.CX P w) 8 fk fdk pReadKind (spRead none C T))
    (TR : Top K mg "read_row" sReadRow pReadRow fr fdr) (GR : FnOk P w K mg base (L2.CX P w) 9 fr fdr pReadRow (spRead (some (", " : Str)) C T)) (TS : Top K mg "read_kinds" sReadKinds pReadKinds fs fds) (GS : FnOk P w K mg base (L2.CX P w) 9 fs fds pReadKinds (spRead (some ("\n" : Str)) C T))
    (PE_ : K1.ErrC K mg "InvalidPaper" C fI) (hX : XfC K C) (hEx : PySem.W.exmOne K (.ref C) (.ref C) = some true) : FnOk P w K mg base CX0 10 f fd pLRead (spLRead T) := by
  have KK := KT.kbinds_mk (ps := pReadKind) (ks := ["text"]) TK_.F (by decide) (fun {α} ws => ws) (fun _ _ _ _ _ _ ws hl => match ws, hl with | [_], _ => rfl) (fun r => r)
  have KR := KT.kbinds_mk (ps := pReadRow) (ks := ["text"]) TR.F (by decide) (fun {α} ws => ws) (fun _ _ _ _ _ _ ws hl => match ws, hl with | [_], _ => rfl) (fun r => r)
  have KS := KT.kbinds_mk (ps := pReadKinds) (ks := ["text"]) TS.F (by decide) (fun {α} ws => ws) (fun _ _ _ _ _ _ ws hl => match ws, hl with | [_], _ => rfl) (fun r => r)
  let kj : Way → Nat := fun | .kind => 8 | .row => 9 | .kinds => 9
  let fj : Way → Addr := fun | .kind => fk | .row => fr | .kinds => fs
  let dj : Way → FuncData := fun | .kind => fdk | .row => fdr | .kinds => fds
  let pj : Way → List Str := fun | .kind => pReadKind | .row => pReadRow | .kinds => pReadKinds
  have FJ : ∀ j, FnOk P w K mg base (L2.CX P w) (kj j) (fj j) (dj j) (pj j) (spRead j.sep C T) := fun j => match j with | .kind => GK | .row => GR | .kinds => GS
  have KJ : ∀ j, KBinds K (dj j) (pj j) ["text"] (gK fun ws => ws) (gK fun ws => ws) := fun j => match j with | .kind => KK | .row => KR | .kinds => KS
  have pJ : ∀ j, PySem.W.keepIn K (.ref (fj j)) = true := fun j => match j with | .kind => TK_.F.kp | .row => TR.F.kp | .kinds => TS.F.kp
  refine T0.F.ok scLRead (fun vs H Q E h => ?_) (fun cdv A outer s H vs Q E hr h => ?_)
  · obtain ⟨_, _, rfl, _⟩ := h
    rfl
  · have rJ : ∀ j, Room (kj j) _ := fun j => (hr.mono (by cases j <;> decide) : Room (kj j) _)
    have hu := hu_of hr
    obtain ⟨wy, x, rfl, hx, hT, k⟩ := h
    refine ⟨_, pss_one (XE.ps_tryK rfl rfl rfl scLRead.nd takes_none5 (fun W pn xe tkW po => pss_one (ps_ret (pe_lst (pa_cons (XE.pe_callDK (E := WE W) FJ rJ pJ KJ (fun σ => passAt tkW σ) (pe_dget hu (pe_disp (pps_cons pe_str (pe_glob (v := .ref fk) rfl TK_.g rfl) (pps_cons pe_str (pe_glob (v := .ref fr) rfl TR.g rfl) (pps_cons pe_str (pe_glob (v := .ref fs) rfl TS.g rfl) pps_nil))) (by rfl) (by rfl) (by simp) (by decide)) (pv 0) (fun _ _ => rfl)) (pk_cons (pv 1) pk_nil)) pa_nil))))
      (.one (i := 2) ⟨rfl, by decide, .inl PE_.gC⟩ rfl rfl (fun e cls d pn => pss_one (ps_ret (pe_lst (pa_cons pe_str (pa_cons (show PE _ _ (tValK K 2) from XE.pe_valK (pv 2)) pa_nil))))) .none)), ?_⟩
    refine fun q nq => ⟨upd_same, wayKvs fk fr fs, rfl, by show 3 ≤ 15; decide, ?_⟩
    rw [upd_upd]
    have s1 : Same H (upd H q (.dK (mergeK [] (wayKvs fk fr fs)))) := same_upd nq
    have e1 : upd H q (.dK (mergeK [] (wayKvs fk fr fs))) q = some (.dK (mergeK [] (wayKvs fk fr fs))) := upd_same
    generalize upd H q (.dK (mergeK [] (wayKvs fk fr fs))) = H1 at s1 e1 ⊢
    have g1 := DGet.k (k := Sum.inr wy.nm) e1
    rw [way_get] at g1
    have efj : wy.pick fk fr fs = fj wy := by cases wy <;> rfl
    refine ⟨_, rfl, q, .ref (fj wy), rfl, by rw [← efj]; exact g1, wy, rfl, _, rfl, x, rfl, hx, hT.ext s1, ?_⟩
    have err : ∀ d H', ExtN H1 H' → Tabs T H' → H' d = none → (∀ p H'', Same H' H'' → H'' p = some (.lst [.str "refused", .str x]) → AnsAt H'' p x wy.sep) → XE.wKeep K (fun _ _ _ _ => False) { nx := fun _ H' => Q V.non H', rt := Q } [(Value.ref C, 2, fun _ _ _ => tRet (tLst (tCons (tC (V.str (Str.ofString "refused"))) (tCons (tValK K 2) tNil))))] (.ref C) (some d) (L2.start nLRead [V.str wy.nm, V.str x]) (upd H' d (XE.vdict (.str x))) := by
      intro d H' eA T' nd hA
      refine ⟨true, hEx, (fun z => absurd z (by decide)), fun _ e ne => ?_⟩
      have s2 := same_upd (o := XE.vdict (.str x)) nd
      have s3 := same_upd (o := XE.exk e (.ref C) (some d)) ne
      have nde : d ≠ e := fun z => by rw [← z, upd_same] at ne; cases ne
      refine ⟨_, rfl, C, e, .str x, rfl, ⟨d, upd_same, by rw [upd_ne nde, upd_same]⟩, hX, PE_.noN, by show 2 ≤ sizeLine; rw [sizeLine_eq]; omega, fun p np => ?_⟩
      have s4 := same_upd (o := .lst [.str "refused", .str x]) np
      have s24 := (s2.trans s3).trans s4
      exact k p _ (((extn_same s1).trans eA).trans (extn_same s24)) (T'.ext s24) (hA _ _ s24 upd_same)
    cases wy with
    | kind =>
      refine ⟨fun v H' eA T' hv ha => ⟨by show 1 ≤ sizeLine; rw [sizeLine_eq]; omega, fun p np => ?_⟩, fun ha d H' eA T' nd => err d H' eA T' nd fun p H'' _ h => .inl ⟨ha, h⟩⟩
      have s4 := same_upd (o := .lst [v]) np
      exact k p _ (((extn_same s1).trans eA).trans (extn_same s4)) (T'.ext s4) (.inr ⟨ha, v, upd_same, hv.mono (TK.of_same s4)⟩)
    | row =>
      refine ⟨fun L us H' eA T' eL hv ha _ => ⟨by show 1 ≤ sizeLine; rw [sizeLine_eq]; omega, fun p np => ?_⟩, fun ha d H' eA T' nd => err d H' eA T' nd fun p H'' _ h => .inl ⟨ha, h⟩⟩
      have s4 := same_upd (o := .lst [.ref L]) np
      exact k p _ (((extn_same s1).trans eA).trans (extn_same s4)) (T'.ext s4) (.inr ⟨ha, L, us, upd_same, s4 _ _ eL, hv.mono (TK.of_same s4)⟩)
    | kinds =>
      refine ⟨fun L us H' eA T' eL hv ha _ => ⟨by show 1 ≤ sizeLine; rw [sizeLine_eq]; omega, fun p np => ?_⟩, fun ha d H' eA T' nd => err d H' eA T' nd fun p H'' _ h => .inl ⟨ha, h⟩⟩
      have s4 := same_upd (o := .lst [.ref L]) np
      exact k p _ (((extn_same s1).trans eA).trans (extn_same s4)) (T'.ext s4) (.inr ⟨ha, L, us, upd_same, s4 _ _ eL, hv.mono (TK.of_same s4)⟩)
end
end V1

namespace V1
open PySem PySem.Spec PyProof.Rows L2 NdefX LamX KT
open PySem.W (Frag)
section
variable {P : Program} {w : World} {K : Frag} {mg : Str → Option Value} {base : Heap}
def spLDue : Sp := fun vs H Q _ => ∃ (wy : Way) (x : Str), vs = [.str wy.nm, .str x] ∧ RdOk x ∧ ∀ L H', Same H H' → AnsAt H' L x wy.sep → Q (.ref L) H'
theorem wy_eq (wy : Way) (a : Way) : decide (V.str wy.nm = V.str a.nm) = match wy, a with | .kind, .kind => true | .row, .row => true | .kinds, .kinds => true | _, _ => false := by
  have e : ∀ (y z : Str), decide (V.str y = V.str z) = decide (y = z) := fun y z => by simp
  rw [e]
  cases wy <;> cases a <;> decide +kernel
theorem ok_ldue {f fk : Addr} {fd fdk : FuncData} (T0 : Top K mg "_law_due" sLDue pLDue f fd) (TK_ : Top K mg "_law_kind_in" sLKindIn pLKindIn fk fdk) (GK : FnOk P w K mg base CX0 62 fk fdk pLKindIn spLKindIn) (B : Blt mg) : FnOk P w K mg base CX0 63 f fd pLDue spLDue := by
  refine T0.F.ok scLDue (fun vs H Q E h => ?_) (fun cdv A outer s H vs Q E hr h => ?_)
  · obtain ⟨_, _, rfl, _⟩ := h
    rfl
  · have hrK := hr
    obtain ⟨wy, x, rfl, hx, k⟩ := h
    refine ⟨_, (pss_cons (ps_if (pt_cmpR op_eq (pv 0) pe_str (nomark _)) (pss_cons (ps_set (i := 2) scLDue.nd rfl (Or.inl rfl) (pe_call GK hrK rfl TK_.g TK_.F.kp TK_.b .nil pass0 (pa_cons (pv 1) pa_nil)))
      (pss_one (ps_ret (pe_ifExp (pt_cmpR op_isN (pv 2) pe_non (nomark _)) (pe_lst (pa_cons pe_str (pa_cons (pv 1) pa_nil))) (pe_lst (pa_cons (pv 2) pa_nil)))))) pss_nil)
      (pss_cons (ps_setLc (i := 2) (own := [("piece", 3)]) (g := (gName 3)) (tt := tYes) rfl scLDue.nd rfl rfl (by rfl) (pi_list (pe_split (pv 1) (pe_ifExp (pt_cmpR op_eq (pv 0) pe_str (nomark _)) pe_str pe_str))) (blkOk_by (N := nLDue) (sc := defScope sLDue) (by decide +kernel)) (fun _ _ _ _ _ => pg_name (i := 3) scLDue.nd rfl (Or.inl rfl)) (fun _ _ _ _ _ => pts_nil) (fun _ _ _ _ _ => (pe_call GK hrK rfl TK_.g TK_.F.kp TK_.b .nil pass0 (pa_cons (pv 3) pa_nil))))
      (pss_one (ps_ret (pe_ifExp (pt_cmpR (op_inD (hu65 hr)) pe_non (pv 2) (by rfl)) (pe_lst (pa_cons pe_str (pa_cons (pv 1) pa_nil))) (pe_lst (pa_cons (pv 2) pa_nil))))))), ?_⟩
    have lsp := fun y => split_le_len (x := x) (y := y)
    have hl := hx.2.1
    refine ⟨_, rfl, rfl, _, congrArg V.bl (wy_eq wy .kind), ?_⟩
    cases wy with
    | kind =>
      refine iteT ⟨_, rfl, x, rfl, hx, fun v H1 s1 hv hd hz => gN ?_⟩
      dsimp only
      have e0 : decide (v = V.non) = isNoD (ofText x) := by
        generalize ofText x = d at hv
        cases hv with
        | o => exact decide_eq_true rfl
        | s _ => exact decide_eq_false fun z => by cases z
        | i _ => exact decide_eq_false fun z => by cases z
        | t _ _ => exact decide_eq_false fun z => by cases z
      refine ⟨_, rfl, rfl, _, congrArg V.bl e0, ?_⟩
      cases ha : isNoD (ofText x) with
      | true => exact iteT ⟨_, rfl, by show 2 ≤ sizeLine; rw [sizeLine_eq]; omega, fun q hq => k q _ (s1.trans (same_upd hq)) (.inl ⟨ha, upd_same⟩)⟩
      | false => exact iteF ⟨_, rfl, by show 1 ≤ sizeLine; rw [sizeLine_eq]; omega, fun q hq => k q _ (s1.trans (same_upd hq)) (.inr ⟨ha, v, upd_same, hv.mono (TK.of_same (same_upd hq))⟩)⟩
    | row =>
      refine iteF ⟨_, rfl, ⟨_, rfl⟩, _, rfl, rfl, _, congrArg V.bl (wy_eq .row .row), iteT ⟨x, (", " : Str), rfl, rfl, by decide +kernel, by rw [sizeLine_eq]; omega, fun p hp => ⟨p, rfl, ⟨_, SqL.of upd_same⟩, fun D hD => ?_⟩⟩⟩
      generalize esp : (", " : Str) = sp at hD ⊢
      have s1 := same_upd (o := .lst ((Txt.split x sp).map V.str)) hp
      have eP := upd_same (H := H) (a := p) (o := .lst ((Txt.split x sp).map V.str))
      have lsp := lsp sp
      generalize upd H p (.lst ((Txt.split x sp).map V.str)) = H1 at s1 eP hD ⊢
      refine lc_list (K := K) (xs := (Txt.split x sp).map V.str) (fun i H' => Same H1 H' ∧ ∃ us, H' D = some (.lst us) ∧ DsAt H' us (((Txt.split x sp).take i).map ofText) ∧ ∀ u ∈ ((Txt.split x sp).take i).map ofText, u.dep ≤ 60)
        ⟨same_upd hD, [], upd_same, .nil, fun u hu => by cases hu⟩ (fun i H' _ q => SqL.of (q.1 _ _ eP)) ?_ ?_
      · rintro i y H' hy ⟨eH, us, eD, hU, hdp⟩
        rw [List.getElem?_map] at hy
        obtain ⟨z, hzi, rfl⟩ := Option.map_eq_some_iff.mp hy
        obtain ⟨hi, _⟩ := List.getElem?_eq_some_iff.mp hzi
        have mz := List.mem_of_getElem? hzi
        have lU := hU.length
        rw [List.length_map, List.length_take] at lU
        refine ⟨rfl, _, rfl, z, rfl, rdok_part hx mz, fun v H3 e3 hv hd hz => ⟨_, e3 _ _ eD, by rw [sizeLine_eq]; omega, ?_⟩⟩
        have tkw : TK H3 (upd H3 D (.lst (us ++ [v]))) := TK.upd_lst (e3 _ _ eD)
        refine ⟨same_over (eH.trans e3) hD, us ++ [v], upd_same, ?_, ?_⟩
        · rw [List.take_add_one, hzi, List.map_append]
          exact ((hU.mono (TK.of_same e3)).mono tkw).append (.cons (hv.mono tkw) .nil)
        · rw [List.take_add_one, hzi, List.map_append]
          intro u hu
          rcases List.mem_append.mp hu with hu | hu
          · exact hdp u hu
          · rw [List.mem_singleton.mp hu]
            exact hd
      · rintro H' ⟨eH, us, eD, hU, hdp⟩
        rw [List.length_map, List.take_length] at hU hdp
        dsimp only
        obtain ⟨p1, p2, p3⟩ := DsAt.py (K := K) hU
        have sh : SeqAt.shaped (.list (pyAll ((Txt.split x sp).map ofText))) = true := by
          unfold SeqAt.shaped
          have q := depAll_le hdp
          simp only [PyData.canLay0, PyData.depth, p2, p3, Bool.true_and, decide_eq_true_eq]
          omega
        refine ⟨_, rfl, .none, _, .non, .lst (SqL.of eD) p1, by decide +kernel, sh, ?_⟩
        rw [any_no]
        cases ha : ((Txt.split x sp).map ofText).any isNoD with
        | true => exact ⟨_, rfl, iteT ⟨_, rfl, by show 2 ≤ sizeLine; rw [sizeLine_eq]; omega, fun q hq => k q _ ((s1.trans eH).trans (same_upd hq)) (by subst esp; exact .inl ⟨ha, upd_same⟩)⟩⟩
        | false =>
          exact ⟨_, rfl, iteF ⟨_, rfl, by show 1 ≤ sizeLine; rw [sizeLine_eq]; omega, fun q hq => k q _ ((s1.trans eH).trans (same_upd hq)) (by subst esp; exact .inr ⟨ha, D, us, upd_same, same_upd hq _ _ eD, hU.mono (TK.of_same (same_upd hq))⟩)⟩⟩
    | kinds =>
      refine iteF ⟨_, rfl, ⟨_, rfl⟩, _, rfl, rfl, _, congrArg V.bl (wy_eq .kinds .row), iteF ⟨x, ("\n" : Str), rfl, rfl, by decide +kernel, by rw [sizeLine_eq]; omega, fun p hp => ⟨p, rfl, ⟨_, SqL.of upd_same⟩, fun D hD => ?_⟩⟩⟩
      generalize esp : ("\n" : Str) = sp at hD ⊢
      have s1 := same_upd (o := .lst ((Txt.split x sp).map V.str)) hp
      have eP := upd_same (H := H) (a := p) (o := .lst ((Txt.split x sp).map V.str))
      have lsp := lsp sp
      generalize upd H p (.lst ((Txt.split x sp).map V.str)) = H1 at s1 eP hD ⊢
      refine lc_list (K := K) (xs := (Txt.split x sp).map V.str) (fun i H' => Same H1 H' ∧ ∃ us, H' D = some (.lst us) ∧ DsAt H' us (((Txt.split x sp).take i).map ofText) ∧ ∀ u ∈ ((Txt.split x sp).take i).map ofText, u.dep ≤ 60)
        ⟨same_upd hD, [], upd_same, .nil, fun u hu => by cases hu⟩ (fun i H' _ q => SqL.of (q.1 _ _ eP)) ?_ ?_
      · rintro i y H' hy ⟨eH, us, eD, hU, hdp⟩
        rw [List.getElem?_map] at hy
        obtain ⟨z, hzi, rfl⟩ := Option.map_eq_some_iff.mp hy
        obtain ⟨hi, _⟩ := List.getElem?_eq_some_iff.mp hzi
        have mz := List.mem_of_getElem? hzi
        have lU := hU.length
        rw [List.length_map, List.length_take] at lU
        refine ⟨rfl, _, rfl, z, rfl, rdok_part hx mz, fun v H3 e3 hv hd hz => ⟨_, e3 _ _ eD, by rw [sizeLine_eq]; omega, ?_⟩⟩
        have tkw : TK H3 (upd H3 D (.lst (us ++ [v]))) := TK.upd_lst (e3 _ _ eD)
        refine ⟨same_over (eH.trans e3) hD, us ++ [v], upd_same, ?_, ?_⟩
        · rw [List.take_add_one, hzi, List.map_append]
          exact ((hU.mono (TK.of_same e3)).mono tkw).append (.cons (hv.mono tkw) .nil)
        · rw [List.take_add_one, hzi, List.map_append]
          intro u hu
          rcases List.mem_append.mp hu with hu | hu
          · exact hdp u hu
          · rw [List.mem_singleton.mp hu]
            exact hd
      · rintro H' ⟨eH, us, eD, hU, hdp⟩
        rw [List.length_map, List.take_length] at hU hdp
        dsimp only
        obtain ⟨p1, p2, p3⟩ := DsAt.py (K := K) hU
        have sh : SeqAt.shaped (.list (pyAll ((Txt.split x sp).map ofText))) = true := by
          unfold SeqAt.shaped
          have q := depAll_le hdp
          simp only [PyData.canLay0, PyData.depth, p2, p3, Bool.true_and, decide_eq_true_eq]
          omega
        refine ⟨_, rfl, .none, _, .non, .lst (SqL.of eD) p1, by decide +kernel, sh, ?_⟩
        rw [any_no]
        cases ha : ((Txt.split x sp).map ofText).any isNoD with
        | true => exact ⟨_, rfl, iteT ⟨_, rfl, by show 2 ≤ sizeLine; rw [sizeLine_eq]; omega, fun q hq => k q _ ((s1.trans eH).trans (same_upd hq)) (by subst esp; exact .inl ⟨ha, upd_same⟩)⟩⟩
        | false =>
          exact ⟨_, rfl, iteF ⟨_, rfl, by show 1 ≤ sizeLine; rw [sizeLine_eq]; omega, fun q hq => k q _ ((s1.trans eH).trans (same_upd hq)) (by subst esp; exact .inr ⟨ha, D, us, upd_same, same_upd hq _ _ eD, hU.mono (TK.of_same (same_upd hq))⟩)⟩⟩
end
end V1

namespace KT
open PySem PySem.Spec PyProof.Rows L2
/-! ### z[::-1]: as long, of the same signs -/
def tRevS (te : TE) : TE := fun σ H Q => te σ H fun x H1 => ∃ z : Str, x = .str z ∧ z.length ≤ sizeLine ∧ ∀ y : Str, y.length ≤ z.length → (∀ c ∈ y.cps.toList, c ∈ z.cps.toList) → Q (.str y) H1
theorem sliceBy_mem (x : Str) (l u : Option (Int × Tok)) (st : Int × Tok) : ∀ c ∈ (Txt.sliceBy x l u st).cps.toList, c ∈ x.cps.toList := by
  intro c hc
  unfold Txt.sliceBy at hc
  split at hc
  · exact hc
  · rw [List.toList_toArray] at hc
    obtain ⟨i, _, hi⟩ := List.mem_filterMap.mp hc
    exact Array.mem_toList_iff.mpr (Array.mem_of_getElem? hi)
section
variable {X : Cx}
theorem pe_revS {e : Expr} {te : TE} {k : Nat} {p1 p2 p3 pos : Pos} (he : PE X e te) (ht : ∀ z t r, letTemporaryGo e (.str z t) r = pure () := by intro _ _ _; rfl) : PE X (.Subscript e (.Slice none none (some (.UnaryOp .USub (.Constant (.int 1) k p1) p2)) p3) pos) (tRevS te) := by
  refine ⟨fun pins s σ H Q I h => ?_⟩
  refine Subscript_ (thn (he.run pins s σ H _ I h) fun v s1 ⟨x, H1, I1, r1, q1⟩ => ?_)
  obtain ⟨z, ex, hz, q⟩ := q1
  subst ex
  obtain ⟨t, rfl⟩ := r1
  have hst : PO X (some (.UnaryOp .USub (.Constant (.int 1) k p1) p2)) (tPart (tUn (rU fun i => .int (-i)) (tC (.int 1)))) := po_some (pe_un un_neg pe_int)
  refine wpAny_Slice (thn (po_none.run pins s1 σ H1 (fun o H2 => o = none ∧ H2 = H1) I1 ⟨rfl, rfl⟩) fun vl s2 ⟨l, H2, I2, pl, el, e2⟩ => ?_)
  subst el e2
  refine thn (po_none.run pins s2 σ H2 (fun o H3 => o = none ∧ H3 = H2) I2 ⟨rfl, rfl⟩) fun vu s3 ⟨u, H3, I3, pu, eu, e3⟩ => ?_
  subst eu e3
  refine thn (hst.run pins s3 σ H3 (fun o H4 => o = some (-1) ∧ H4 = H3) I3 ⟨1, rfl, -1, rfl, rfl, rfl⟩) fun vs s4 ⟨o, H4, I4, ps, eo, e4⟩ => ?_
  subst eo e4
  have I5 : Inv X pins σ H4 { s4 with heap := s4.heap.push { cls := .type "slice", data := .fields #[vl, vu, vs] } } := I4.kept (t' := s4.toks) fun b ob q => Heap.get?_push_of_some _ q
  obtain ⟨l, rfl, el⟩ := IsPart.raw pl
  obtain ⟨u, rfl, eu⟩ := IsPart.raw pu
  obtain ⟨o, rfl, eo⟩ := IsPart.raw ps
  cases l with
  | some _ => cases el
  | none =>
  cases u with
  | some _ => cases eu
  | none =>
  cases o with
  | none => cases eo
  | some kk =>
  obtain ⟨k, uk⟩ := kk
  obtain rfl : k = -1 := Option.some.inj eo
  refine tail_of_ItemOn (ops := [.ref s4.heap.objs.size, .str z t]) ⟨"str", _, F.slot_str_getitem.lookup, typeIs_str _ _ _, wpAny_getItem_str_slice (l := none) (u := none) (st := some (-1, uk)) ⟨_, Heap.get?_push_size _ rfl, rfl, rfl⟩ (show ((-1 : Int) == 0) = false by decide)
    (post_val_or_str ⟨Nat.le_trans (Txt.sliceBy_le z none none (-1, uk) (show (-1 : Int) ≠ 0 by decide)) hz, fun t' c => ⟨.str (Txt.sliceBy z none none (-1, uk)), H4, I5.tok _, ⟨_, rfl⟩, q _ (Txt.sliceBy_le z none none (-1, uk) (show (-1 : Int) ≠ 0 by decide)) (sliceBy_mem z none none (-1, uk))⟩⟩)⟩ (by with_unfolding_all rfl) (fun r => ht z t r)
end
end KT

namespace V1
open PySem PySem.Spec PyProof.Rows L2 NdefX LamX KT
open PySem.W (Frag)
/-! ### bent texts -/
structure Bd (n m : Nat) (y : Str) : Prop where
  c : ∀ c ∈ y.cps.toList, c < 128
  l : y.length ≤ n
  k : y.cps.toList.count 41 ≤ m
theorem Bd.app {n m n' m' : Nat} {y z : Str} (h : Bd n m y) (h' : Bd n' m' z) : Bd (n + n') (m + m') (y ++ z) := by
  refine ⟨fun c hc => ?_, ?_, ?_⟩
  · rw [cps_app] at hc
    rcases List.mem_append.mp hc with hc | hc
    · exact h.c c hc
    · exact h'.c c hc
  · rw [str_len_app]
    have := h.l
    have := h'.l
    omega
  · rw [cps_app, List.count_append]
    have := h.k
    have := h'.k
    omega
def bentS : List Str := ["a", "b", "(", ")", " ", ",", "\n", "A", "1", " over ", "()", "  ", ", "]
theorem bent_ok : ∀ z ∈ bentS, (∀ c ∈ z.cps.toList, c < 128) ∧ z.length ≤ 6 ∧ z.cps.toList.count 41 ≤ 1 := by decide +kernel
theorem cut_pre (x : Str) (i : Nat) : (cutS x none (some (i : Int))).cps.toList = x.cps.toList.take i := by
  unfold cutS
  rw [HT.sIx_nat]
  have e : HT.sIx x.length 0 none = 0 := rfl
  have l : x.length = x.cps.toList.length := by show x.cps.size = _; simp
  rw [e, List.drop_zero, Nat.sub_zero, l]
  simp [List.take_eq_take_iff]
theorem cut_post (x : Str) (i : Nat) : (cutS x (some (i : Int)) none).cps.toList = x.cps.toList.drop i := by
  unfold cutS
  rw [HT.sIx_nat]
  have e : HT.sIx x.length x.length none = x.length := rfl
  have l : x.length = x.cps.toList.length := by show x.cps.size = _; simp
  rw [e, l, List.take_of_length_le (by simp)]
  by_cases h : i ≤ x.cps.toList.length
  · rw [Nat.min_eq_left h]
  · rw [Nat.min_eq_right (by omega), List.drop_of_length_le (by omega), List.drop_of_length_le (by omega)]
theorem cut_mid (x : Str) (i : Nat) : (cutS x (some (i : Int)) (some ((i : Int) + 2))).length ≤ 2 ∧ ∀ c ∈ (cutS x (some (i : Int)) (some ((i : Int) + 2))).cps.toList, c ∈ x.cps.toList := by
  have e : ((i : Int) + 2) = ((i + 2 : Nat) : Int) := by omega
  rw [e]
  unfold cutS
  rw [HT.sIx_nat, HT.sIx_nat]
  refine ⟨?_, fun c hc => List.mem_of_mem_drop (List.mem_of_mem_take hc)⟩
  show (List.toArray _).size ≤ 2
  rw [List.size_toArray, List.length_take]
  omega
theorem bd_two {x y z : Str} {i j n m : Nat} (hx : Bd n m x) (ij : i ≤ j) (hy : y.cps.toList = x.cps.toList.take i) (hz : z.cps.toList = x.cps.toList.drop j) : (∀ c ∈ y.cps.toList, c < 128) ∧ (∀ c ∈ z.cps.toList, c < 128) ∧ y.length + z.length ≤ n ∧ y.cps.toList.count 41 + z.cps.toList.count 41 ≤ m := by
  have ly : y.length = y.cps.toList.length := by show y.cps.size = _; simp
  have lz : z.length = z.cps.toList.length := by show z.cps.size = _; simp
  have lx : x.length = x.cps.toList.length := by show x.cps.size = _; simp
  have h1 := hx.l
  have h2 := hx.k
  rw [ly, lz, hy, hz]
  refine ⟨fun c hc => hx.c c (List.mem_of_mem_take hc), fun c hc => hx.c c (List.mem_of_mem_drop hc), ?_, ?_⟩
  · rw [List.length_take, List.length_drop]
    omega
  · have e : x.cps.toList.count 41 = (x.cps.toList.take i).count 41 + (x.cps.toList.drop i).count 41 := by rw [← List.count_append, List.take_append_drop]
    have e2 : (x.cps.toList.drop j).count 41 ≤ (x.cps.toList.drop i).count 41 := by
      have : x.cps.toList.drop j = (x.cps.toList.drop i).drop (j - i) := by rw [List.drop_drop]; congr 1; omega
      rw [this]
      exact List.Sublist.count_le _ (List.drop_sublist _ _)
    omega
section
variable {P : Program} {w : World} {K : Frag} {mg : Str → Option Value} {base : Heap}
def spLBent : Sp := fun vs H Q _ => ∃ (a : Addr) (n : Nat) (x : Str), vs = [.ref a, .str x] ∧ PurseAt H a n ∧ n ≤ 900000000000 ∧ Bd 15000 40 x ∧ ∀ (y : Str) (H' : Hp), RdOk y → KeepBut a H H' → PurseAt H' a (n + 3) → Q (.str y) H'
theorem ok_lbent {f fd_ fm fo : Addr} {fd fdd fdm fdo : FuncData} (T0 : Top K mg "_law_bent" sLBent pLBent f fd) (TD : Top K mg "_law_draw" sLDraw ["purse", "many"] fd_ fdd) (TM : Top K mg "_law_mixed" sLMixed ["seed", "spin", "at"] fm fdm) (TO : Top K mg "_law_one_of" sLOneOf ["purse", "some"] fo fdo) (B : Blt mg) : FnOk P w K mg base CX0 4 f fd pLBent spLBent := by
  have GD : FnOk P w K mg base CX0 2 fd_ fdd ["purse", "many"] spDraw := ok_draw TD TM B
  have GO : FnOk P w K mg base CX0 3 fo fdo ["purse", "some"] spOneOf := ok_oneOf TO TD TM B
  refine T0.F.ok scLBent (fun vs H Q E h => ?_) (fun cdv A outer s H vs Q E hr h => ?_)
  · obtain ⟨_, _, _, rfl, _⟩ := h
    rfl
  · have hr3 : Room 3 _ := hr
    have hr2 : Room 2 _ := hr.mono (by decide)
    obtain ⟨a, n, x, rfl, hp, hn, hx, k⟩ := h
    refine ⟨_, (pss_cons (ps_par (i := 2) (j := 3) rfl scLBent.nd rfl rfl (by decide) rfl rfl (pa_cons (pe_call GD hr2 rfl TD.g TD.F.kp TD.b .nil pass0 (pa_cons (pv 0) (pa_cons (pe_op op_add (pe_callB call_len_str (by rfl) B.len PySem.boot_len (pa_cons (pv 1) pa_nil)) pe_int) pa_nil))) (pa_cons (pe_call GO hr3 rfl TO.g TO.F.kp TO.b .nil pass0 (pa_cons (pv 0) (pa_cons (pe_op op_cat (pe_callTy (call_listS rfl) (by rfl) B.list (by decide +kernel) (pa_cons pe_str pa_nil)) (pe_lst (pa_cons pe_str (pa_cons pe_str (pa_cons pe_str (pa_cons pe_str pa_nil)))))) pa_nil))) pa_nil)) (by rfl))
      (pss_cons (ps_set (i := 4) scLBent.nd rfl (Or.inl rfl) (pe_call GD hr2 rfl TD.g TD.F.kp TD.b .nil pass0 (pa_cons (pv 0) (pa_cons pe_int pa_nil))))
      (pss_cons (ps_if (pt_cmpR op_eq (pv 4) pe_int (nomark _)) (pss_one (ps_ret (pe_op op_add_str (pe_op op_add_str (pe_slice sl_str (pv 1) po_none (po_some (pv 2))) (pv 3)) (pe_slice sl_str (pv 1) (po_some (pv 2)) po_none)))) pss_nil)
      (pss_cons (ps_if (pt_cmpR op_eq (pv 4) pe_int (nomark _)) (pss_one (ps_ret (pe_op op_add_str (pe_slice sl_str (pv 1) po_none (po_some (pv 2))) (pe_slice sl_str (pv 1) (po_some (pe_op op_add (pv 2) pe_int)) po_none)))) pss_nil)
      (pss_one (ps_ret (pe_ifExp (pt_cmpR op_eq (pv 4) pe_int (nomark _)) (pe_op op_add_str (pe_op op_add_str (pe_slice sl_str (pv 1) po_none (po_some (pv 2))) (pv 3)) (pe_slice sl_str (pv 1) (po_some (pe_op op_add (pv 2) pe_int)) po_none)) (pe_op op_add_str (pe_op op_add_str (pe_slice sl_str (pv 1) po_none (po_some (pv 2))) (KT.pe_revS (pe_slice sl_str (pv 1) (po_some (pv 2)) (po_some (pe_op op_add (pv 2) pe_int))))) (pe_slice sl_str (pv 1) (po_some (pe_op op_add (pv 2) pe_int)) po_none))))))))), ?_⟩
    have hl := hx.l
    refine ⟨_, rfl, _, rfl, x, rfl, by rw [sizeLine_eq]; omega, _, _, rfl, rfl, a, n, _, rfl, hp, by omega, by omega, by omega, fun spot H1 s0 s1 off1 hp1 => ?_⟩
    obtain ⟨i, rfl⟩ := Int.eq_ofNat_of_zero_le s0
    refine ⟨_, rfl, _, rfl, by show (9 : Nat) ≤ sizeLine; rw [sizeLine_eq]; omega, fun p np => ⟨by show 4 ≤ sizeLine; rw [sizeLine_eq]; omega, fun q nq => ⟨p, q, _, _, rfl, rfl, (same_upd nq) _ _ upd_same, upd_same, by show (9 : Nat) + 4 ≤ sizeLine; rw [sizeLine_eq]; omega, fun r nr => ?_⟩⟩⟩
    have s12 := ((same_upd (o := .lst (signsV (Str.ofString "ab() ,\nA1"))) np).trans (same_upd (o := .lst [.str " over ", .str "()", .str "  ", .str ", "]) nq)).trans (same_upd (o := .lst (signsV (Str.ofString "ab() ,\nA1") ++ [.str " over ", .str "()", .str "  ", .str ", "])) nr)
    have er := upd_same (H := upd (upd H1 p (.lst (signsV (Str.ofString "ab() ,\nA1")))) q (.lst [.str " over ", .str "()", .str "  ", .str ", "])) (a := r) (o := .lst (signsV (Str.ofString "ab() ,\nA1") ++ [.str " over ", .str "()", .str "  ", .str ", "]))
    have eb : signsV (Str.ofString "ab() ,\nA1") ++ [.str " over ", .str "()", .str "  ", .str ", "] = bentS.map V.str := by decide +kernel
    rw [eb] at s12 er ⊢
    have nra : r ≠ a := fun z => by
      obtain ⟨_, _, _, _, e, _⟩ := hp1
      have e' := ((same_upd (o := .lst (signsV (Str.ofString "ab() ,\nA1"))) np).trans (same_upd (o := .lst [.str " over ", .str "()", .str "  ", .str ", "]) nq)) _ _ e
      rw [z, e'] at nr
      cases nr
    generalize upd (upd (upd H1 p (.lst (signsV (Str.ofString "ab() ,\nA1")))) q (.lst [.str " over ", .str "()", .str "  ", .str ", "])) r (.lst (bentS.map V.str)) = H2 at s12 er ⊢
    have hp2 : PurseAt H2 a (n + 1) := by
      obtain ⟨p0, p1, p2, p3, e, rest⟩ := hp1
      exact ⟨p0, p1, p2, p3, s12 _ _ e, rest⟩
    refine ⟨a, r, n + 1, _, rfl, hp2, by omega, nra, er, by decide, by decide, fun j v H3 hv off3 hp3 => ?_⟩
    rw [List.getElem?_map] at hv
    obtain ⟨z, hz, rfl⟩ := Option.map_eq_some_iff.mp hv
    obtain ⟨zc, zl, zk⟩ := bent_ok z (List.mem_of_getElem? hz)
    have hzB : Bd 6 1 z := ⟨zc, zl, zk⟩
    refine ⟨_, _, rfl, _, rfl, a, n + 2, _, rfl, hp3, by omega, by decide, by decide, fun way H4 w0 w1 off4 hp4 => ?_⟩
    have kb : KeepBut a H H4 := (((KeepBut.of_off off1).trans (KeepBut.of_same s12)).trans (KeepBut.of_off off3)).trans (KeepBut.of_off off4)
    have K3 : ∀ y : Str, Bd 20000 50 y → Q (.str y) H4 := fun y hy => k y H4 ⟨hy.c, hy.l, hy.k⟩ kb hp4
    have lc : ∀ u v, (cutS x u v).length ≤ 15000 := fun u v => Nat.le_trans (cutS_length x u v) hl
    have e1 : ((i : Int) + 1) = ((i + 1 : Nat) : Int) := by omega
    have e2 : ((i : Int) + 2) = ((i + 2 : Nat) : Int) := by omega
    have len1 : ∀ u v, (cutS x u v ++ z).length ≤ 15006 := fun u v => by rw [str_len_app]; have := lc u v; omega
    have pre := cut_pre x i
    have post := cut_post x i
    have post1 := cut_post x (i + 1)
    have post2 := cut_post x (i + 2)
    refine ⟨_, rfl, rfl, _, rfl, ite2 (fun _ => ?_) (fun _ => ?_)⟩
    · obtain ⟨a1, a2, a3, a4⟩ := bd_two hx (Nat.le_refl i) pre post
      refine ⟨_, rfl, _, rfl, _, rfl, x, rfl, by rw [sizeLine_eq]; omega, _, rfl, _, _, rfl, rfl, by have := lc none (some (i : Int)); rw [sizeLine_eq]; omega, _, rfl, _, rfl, _, rfl, x, rfl, by rw [sizeLine_eq]; omega, _, _, rfl, rfl, by have := len1 none (some (i : Int)); have := lc (some (i : Int)) none; rw [sizeLine_eq]; omega, ?_⟩
      refine K3 _ ⟨?_, ?_, ?_⟩
      · rw [cps_app, cps_app]
        intro c hc
        rcases List.mem_append.mp hc with hc | hc
        · rcases List.mem_append.mp hc with hc | hc
          · exact a1 c hc
          · exact zc c hc
        · exact a2 c hc
      · rw [str_len_app, str_len_app]; omega
      · rw [cps_app, cps_app, List.count_append, List.count_append]; omega
    refine ⟨_, rfl, rfl, _, rfl, ite2 (fun _ => ?_) (fun _ => ?_)⟩
    · obtain ⟨a1, a2, a3, a4⟩ := bd_two hx (Nat.le_succ i) pre post1
      refine ⟨_, rfl, _, rfl, _, rfl, x, rfl, by rw [sizeLine_eq]; omega, _, rfl, _, rfl, _, _, rfl, rfl, _, rfl, x, rfl, by rw [sizeLine_eq]; omega, _, _, rfl, rfl, by have := lc none (some (i : Int)); have := lc (some ((i : Int) + 1)) none; rw [sizeLine_eq]; omega, ?_⟩
      rw [e1]
      refine K3 _ ⟨?_, ?_, ?_⟩
      · rw [cps_app]
        intro c hc
        rcases List.mem_append.mp hc with hc | hc
        · exact a1 c hc
        · exact a2 c hc
      · rw [str_len_app]; omega
      · rw [cps_app, List.count_append]; omega
    refine ⟨_, rfl, rfl, _, rfl, ite2 (fun _ => ?_) (fun _ => ?_)⟩
    · obtain ⟨a1, a2, a3, a4⟩ := bd_two hx (Nat.le_succ i) pre post1
      refine ⟨_, rfl, _, rfl, _, rfl, x, rfl, by rw [sizeLine_eq]; omega, _, rfl, _, _, rfl, rfl, by have := lc none (some (i : Int)); rw [sizeLine_eq]; omega, _, rfl, _, rfl, _, _, rfl, rfl, _, rfl, x, rfl, by rw [sizeLine_eq]; omega, _, _, rfl, rfl, by have := len1 none (some (i : Int)); have := lc (some ((i : Int) + 1)) none; rw [sizeLine_eq]; omega, ?_⟩
      rw [e1]
      refine K3 _ ⟨?_, ?_, ?_⟩
      · rw [cps_app, cps_app]
        intro c hc
        rcases List.mem_append.mp hc with hc | hc
        · rcases List.mem_append.mp hc with hc | hc
          · exact a1 c hc
          · exact zc c hc
        · exact a2 c hc
      · rw [str_len_app, str_len_app]; omega
      · rw [cps_app, cps_app, List.count_append, List.count_append]; omega
    · obtain ⟨a1, a2, a3, a4⟩ := bd_two hx (show i ≤ i + 2 by omega) pre post2
      obtain ⟨m1, m2⟩ := cut_mid x i
      refine ⟨_, rfl, _, rfl, _, rfl, x, rfl, by rw [sizeLine_eq]; omega, _, rfl, _, rfl, _, rfl, _, rfl, _, _, rfl, rfl, _, rfl, x, rfl, by rw [sizeLine_eq]; omega, _, rfl, by rw [sizeLine_eq]; omega, fun y yl yc => ?_⟩
      have y2 : y.cps.toList.count 41 ≤ 2 := Nat.le_trans List.count_le_length (by have : y.length = y.cps.toList.length := by { show y.cps.size = _; simp }
                                                                                   omega)
      refine ⟨_, _, rfl, rfl, by have := lc none (some (i : Int)); rw [sizeLine_eq]; omega, _, rfl, _, rfl, _, _, rfl, rfl, _, rfl, x, rfl, by rw [sizeLine_eq]; omega, _, _, rfl, rfl, by rw [str_len_app]; have := lc none (some (i : Int)); have := lc (some ((i : Int) + 2)) none; rw [sizeLine_eq]; omega, ?_⟩
      rw [e2]
      refine K3 _ ⟨?_, ?_, ?_⟩
      · rw [cps_app, cps_app]
        intro c hc
        rcases List.mem_append.mp hc with hc | hc
        · rcases List.mem_append.mp hc with hc | hc
          · exact a1 c hc
          · exact hx.c c (m2 c (yc c hc))
        · exact a2 c hc
      · rw [str_len_app, str_len_app]; omega
      · rw [cps_app, cps_app, List.count_append, List.count_append]; omega
end
end V1

namespace V1
open PySem PySem.Spec PyProof.Rows L2 NdefX LamX KT
open PySem.W (Frag)
theorem dep_mem {p : D} : ∀ {l : List D}, p ∈ l → p.dep ≤ depAll l
  | [], h => by cases h
  | d :: r, h => by
    simp only [depAll]
    rcases List.mem_cons.mp h with e | q
    · rw [e]; omega
    · have := dep_mem q; omega
theorem size_mem {p : D} : ∀ {l : List D}, p ∈ l → p.size ≤ sizeAll l
  | [], h => by cases h
  | d :: r, h => by
    simp only [sizeAll]
    rcases List.mem_cons.mp h with e | q
    · rw [e]; omega
    · have := size_mem q; omega
theorem SameDt.lst {H : Hp} {p q : Addr} {xs ys : List V} {k : Nat} (e : H p = some (.lst xs)) (e' : H q = some (.lst ys)) (l : xs.length = ys.length) (m : xs.length ≤ 1000000) (h : ∀ (i : Nat) (x y : V), xs[i]? = some x → ys[i]? = some y → SameDt H k x y) : SameDt H (k + 1) (.ref p) (.ref q) := .inr ⟨p, q, xs, ys, rfl, rfl, .inl ⟨e, e'⟩, l, m, h⟩
theorem SameDt.tup {H : Hp} {p q : Addr} {xs ys : List V} {k : Nat} (e : H p = some (.tup xs)) (e' : H q = some (.tup ys)) (l : xs.length = ys.length) (m : xs.length ≤ 1000000) (h : ∀ (i : Nat) (x y : V), xs[i]? = some x → ys[i]? = some y → SameDt H k x y) : SameDt H (k + 1) (.ref p) (.ref q) := .inr ⟨p, q, xs, ys, rfl, rfl, .inr ⟨e, e'⟩, l, m, h⟩
theorem two_same {H : Hp} {k : Nat} {a b a' b' : V} (h : SameDt H k a a') (h' : SameDt H k b b') : ∀ (i : Nat) (x y : V), [a, b][i]? = some x → [a', b'][i]? = some y → SameDt H k x y := by
  intro i x y h1 h2
  match i, h1, h2 with
  | 0, h1, h2 =>
    obtain rfl := Option.some.inj h1
    obtain rfl := Option.some.inj h2
    exact h
  | 1, h1, h2 =>
    obtain rfl := Option.some.inj h1
    obtain rfl := Option.some.inj h2
    exact h'
  | n + 2, h1, h2 => exact absurd h1 (by simp)
theorem SameDt.d {H : Hp} : ∀ (n : Nat) {v v' : V} {u : D}, u.size ≤ n → n ≤ 40000 → DAt H v u → DAt H v' u → SameDt H u.dep v v' := by
  intro n
  induction n with
  | zero => intro v v' u h; have := u.size_pos; omega
  | succ n ih =>
    intro v v' u hz hn h h'
    cases h with
    | s h => cases h'; exact .scl (.s _)
    | i j => cases h'; exact .scl (.i _)
    | o => cases h'; exact .scl .o
    | @t p xs ds e hs =>
      cases h' with
      | @t p' ys _ e' hs' =>
        simp only [D.size] at hz
        have ll := len_size ds
        simp only [D.dep]
        refine .tup e e' (by rw [hs.length, hs'.length]) (by rw [hs.length]; omega) fun i x y h1 h2 => ?_
        obtain ⟨u, hu, hx⟩ := hs.at_ h1
        obtain ⟨u', hu', hy⟩ := hs'.at_ h2
        obtain rfl := Option.some.inj (hu.symm.trans hu')
        have mu := List.mem_of_getElem? hu
        have zm := size_mem mu
        have dm := dep_mem mu
        exact (ih (by omega) (by omega) hx hy).le dm
structure Drawn (H : Hp) (a L : Addr) (n : Nat) (zs : List Str) : Prop where
  p : PurseAt H a n
  ne : L ≠ a
  l : H L = some (.lst (zs.map V.str))
  z : Plains zs
theorem Drawn.but {H H' : Hp} {a L : Addr} {n m : Nat} {zs : List Str} (h : Drawn H a L n zs) (k : KeepBut a H H') (p : PurseAt H' a m) : Drawn H' a L m zs := ⟨p, h.ne, k _ _ h.l h.ne, h.z⟩
theorem Drawn.same {H H' : Hp} {a L : Addr} {n : Nat} {zs : List Str} (h : Drawn H a L n zs) (s : Same H H') : Drawn H' a L n zs := ⟨by obtain ⟨p0, p1, p2, p3, e, r⟩ := h.p; exact ⟨p0, p1, p2, p3, s _ _ e, r⟩, h.ne, s _ _ h.l, h.z⟩
theorem tabs_kb {T : List (Addr × Str)} {H H' : Hp} {a : Addr} {n : Nat} (t : Tabs T H) (p : PurseAt H a n) (k : KeepBut a H H') : Tabs T H' := by
  obtain ⟨p0, p1, p2, p3, e, rr⟩ := p
  exact tabs_but t e (fun ps z => by cases z) (fun c q z => by cases z) fun b u h n => k _ _ h n
theorem tys_ds {H : Hp} {us : List V} {ts : List Ty} (h : Tys H us ts) : DsAt H us (ts.map Ty.d) := by
  induction h with
  | nil => exact .nil
  | cons a _ i => exact .cons a.d i
theorem one_same {H : Hp} {k : Nat} {a a' : V} (h : SameDt H k a a') : ∀ (i : Nat) (x y : V), [a][i]? = some x → [a'][i]? = some y → SameDt H k x y := by
  intro i x y h1 h2
  match i, h1, h2 with
  | 0, h1, h2 =>
    obtain rfl := Option.some.inj h1
    obtain rfl := Option.some.inj h2
    exact h
  | n + 1, h1, h2 => exact absurd h1 (by simp)
theorem three_same {H : Hp} {k : Nat} {a b c a' b' c' : V} (h : SameDt H k a a') (h2 : SameDt H k b b') (h3 : SameDt H k c c') : ∀ (i : Nat) (x y : V), [a, b, c][i]? = some x → [a', b', c'][i]? = some y → SameDt H k x y := by
  intro i x y e1 e2
  match i, e1, e2 with
  | 0, e1, e2 =>
    obtain rfl := Option.some.inj e1
    obtain rfl := Option.some.inj e2
    exact h
  | 1, e1, e2 =>
    obtain rfl := Option.some.inj e1
    obtain rfl := Option.some.inj e2
    exact h2
  | 2, e1, e2 =>
    obtain rfl := Option.some.inj e1
    obtain rfl := Option.some.inj e2
    exact h3
  | n + 3, e1, e2 => exact absurd e1 (by simp)
/-! ### sizes of what a text tells -/
theorem text_cps (g : Sg) (a b : Ty) : (Ty.n g a b).text.cps.toList = 40 :: (a.text.cps.toList ++ (32 :: (g.str.cps.toList ++ (32 :: (b.text.cps.toList ++ [41]))))) := by
  simp only [Ty.text, cps_app, ch_l, List.append_assoc, List.cons_append, List.nil_append]
theorem text_bd : ∀ (t : Ty), t.wok → t.d.dep ≤ t.text.cps.toList.count 41 ∧ t.text.cps.toList.count 41 = t.signs ∧ t.d.size ≤ t.text.length
  | .w z, h => by
    have n0 : z.cps.toList.count 41 = 0 := List.count_eq_zero.mpr (isW_no h (by decide))
    refine ⟨by simp [Ty.d, D.dep], ?_, ?_⟩
    · show z.cps.toList.count 41 = 0
      exact n0
    · show 1 ≤ z.length
      exact h.1
  | .n g a b, h => by
    obtain ⟨a1, a2, a3⟩ := text_bd a h.1
    obtain ⟨b1, b2, b3⟩ := text_bd b h.2
    have g0 : g.str.cps.toList.count 41 = 0 := List.count_eq_zero.mpr (sg_no g (by decide))
    have gl : 4 ≤ g.str.cps.toList.length := by cases g <;> decide +kernel
    have l : (Ty.n g a b).text.length = (Ty.n g a b).text.cps.toList.length := by show (Ty.n g a b).text.cps.size = _; simp
    have la : a.text.length = a.text.cps.toList.length := by show a.text.cps.size = _; simp
    have lb : b.text.length = b.text.cps.toList.length := by show b.text.cps.size = _; simp
    rw [l, text_cps]
    simp only [List.count_cons, List.count_append, List.length_cons, List.length_append, List.count_nil, List.length_nil, g0, dep_n, Ty.signs]
    have i1 : (if ((40 : Nat) == 41) = true then 1 else 0) = 0 := rfl
    have i2 : (if ((32 : Nat) == 41) = true then 1 else 0) = 0 := rfl
    have i3 : (if ((41 : Nat) == 41) = true then 1 else 0) = 1 := rfl
    rw [i1, i2, i3]
    refine ⟨?_, ?_, ?_⟩
    · omega
    · omega
    · simp only [Ty.d, D.size, sizeAll]
      omega
theorem ofText_small {x : Str} (h : RdOk x) : (ofText x).dep ≤ 50 ∧ (ofText x).size ≤ 20000 := by
  rcases ofText_cases x with ⟨t, h1, rfl, e⟩ | ⟨_, e⟩
  · rw [e]
    obtain ⟨a, _, c⟩ := text_bd t h1
    exact ⟨Nat.le_trans a h.2.2, Nat.le_trans c h.2.1⟩
  · rw [e]
    simp [D.dep, D.size]
theorem noD_d (t : Ty) : isNoD t.d = false := by cases t <;> rfl
theorem any_noD (ts : List Ty) : (ts.map Ty.d).any isNoD = false := by
  induction ts with
  | nil => rfl
  | cons t r ih => rw [List.map_cons, List.any_cons, noD_d, ih]; rfl
theorem ds_same {H : Hp} {us us' : List V} {ds : List D} (h : DsAt H us ds) (h' : DsAt H us' ds) (b : ∀ d ∈ ds, d.dep ≤ 50 ∧ d.size ≤ 20000) : ∀ (i : Nat) (x y : V), us[i]? = some x → us'[i]? = some y → SameDt H 50 x y := by
  intro i x y h1 h2
  obtain ⟨u, hu, hx⟩ := h.at_ h1
  obtain ⟨u', hu', hy⟩ := h'.at_ h2
  obtain rfl := Option.some.inj (hu.symm.trans hu')
  obtain ⟨b1, b2⟩ := b u (List.mem_of_getElem? hu)
  exact (SameDt.d 40000 (by omega) (Nat.le_refl _) hx hy).le b1
theorem texts_small {x sp : Str} (h : RdOk x) : (∀ d ∈ ofTexts sp x, d.dep ≤ 50 ∧ d.size ≤ 20000) ∧ (ofTexts sp x).length ≤ 1000000 := by
  refine ⟨fun d hd => ?_, ?_⟩
  · obtain ⟨p, hp, rfl⟩ := List.mem_map.mp hd
    exact ofText_small (rdok_part h hp)
  · unfold ofTexts
    rw [List.length_map]
    have := split_le_len (x := x) (y := sp)
    have := h.2.1
    omega
theorem ans_same {H : Hp} {L L' : Addr} {x : Str} (hx : RdOk x) : ∀ {sep : Option Str}, AnsAt H L x sep → AnsAt H L' x sep → SameDt H 53 (.ref L) (.ref L')
  | none, h, h' => by
    rcases h with ⟨a, e⟩ | ⟨a, v, e, hv⟩ <;> rcases h' with ⟨a', e'⟩ | ⟨a', v', e', hv'⟩
    · exact (SameDt.lst (k := 0) e e' rfl (by show 2 ≤ _; omega) (two_same (.scl (.s _)) (.scl (.s _)))).le (by omega)
    · rw [a] at a'; cases a'
    · rw [a] at a'; cases a'
    · obtain ⟨b1, b2⟩ := ofText_small hx
      exact (SameDt.lst (k := 50) e e' rfl (by show 1 ≤ _; omega) (one_same ((SameDt.d 40000 (by omega) (Nat.le_refl _) hv hv').le b1))).le (by omega)
  | some sp, h, h' => by
    rcases h with ⟨a, e⟩ | ⟨a, M, us, e, eM, hv⟩ <;> rcases h' with ⟨a', e'⟩ | ⟨a', M', us', e', eM', hv'⟩
    · exact (SameDt.lst (k := 0) e e' rfl (by show 2 ≤ _; omega) (two_same (.scl (.s _)) (.scl (.s _)))).le (by omega)
    · rw [a] at a'; cases a'
    · rw [a] at a'; cases a'
    · obtain ⟨b1, b2⟩ := texts_small (sp := sp) hx
      exact (SameDt.lst (k := 51) e e' rfl (by show 1 ≤ _; omega) (one_same (SameDt.lst (k := 50) eM eM' (by rw [hv.length, hv'.length]) (by rw [hv.length]; exact b2) (ds_same hv hv' b1)))).le (by omega)
theorem tl_eq (x : Str) : TL.tl x = x.cps.toList := rfl
/-- the rows' texts, read back -/
theorem ofTexts_join {sp : Str} {s : Nat} {S : List Nat} (ey : sp.cps.toList = s :: S) (hk : sp.cps.all (· < 256) = true) (hs : s < 97) (h40 : s ≠ 40) (h41 : s ≠ 41) (h32 : s ≠ 32) {ts : List Ty} (hne : ts ≠ []) (hw : ∀ t ∈ ts, t.wok) : ofTexts sp (Txt.join sp (ts.map Ty.text)) = ts.map Ty.d := by
  have no : ∀ t : Ty, t.wok → s ∉ t.text.cps.toList := by
    intro t
    induction t with
    | w z => intro h; exact isW_no h hs
    | n g a b i j =>
      intro h m
      rw [text_cps] at m
      simp only [List.mem_cons, List.mem_append, List.not_mem_nil, or_false] at m
      rcases m with m | m | m | m | m | m | m
      · exact h40 m
      · exact i h.1 m
      · exact h32 m
      · exact sg_no g hs m
      · exact h32 m
      · exact j h.2 m
      · exact h41 m
  unfold ofTexts
  rw [TL.split_join (s := s) (S := S) ey hk (by simpa using hne) fun p hp => by
    obtain ⟨t, ht, rfl⟩ := List.mem_map.mp hp
    exact no t (hw t ht)]
  rw [List.map_map]
  exact List.map_congr_left fun t ht => ofText_text t (hw t ht)
theorem join_comma {ts : List Ty} (hne : ts ≠ []) (hw : ∀ t ∈ ts, t.wok) : ofTexts (", " : Str) (Txt.join (", " : Str) (ts.map Ty.text)) = ts.map Ty.d := ofTexts_join (s := 44) (S := [32]) (by decide +kernel) (by decide +kernel) (by decide) (by decide) (by decide) (by decide) hne hw
theorem join_line {ts : List Ty} (hne : ts ≠ []) (hw : ∀ t ∈ ts, t.wok) : ofTexts ("\n" : Str) (Txt.join ("\n" : Str) (ts.map Ty.text)) = ts.map Ty.d := ofTexts_join (s := 10) (S := []) (by decide +kernel) (by decide +kernel) (by decide) (by decide) (by decide) (by decide) hne hw
/-- the texts of drawn kinds -/
theorem text_Bd {t : Ty} (h : t.wok) (hs : t.signs ≤ 7) : Bd 300 7 t.text := by
  obtain ⟨_, b, _⟩ := text_bd t h
  refine ⟨text_chars t h, ?_, by omega⟩
  have q := text_len t h
  have s : ∀ u : Ty, u.d.size = 1 + 3 * u.signs := by
    intro u
    induction u with
    | w z => simp [Ty.d, D.size, Ty.signs]
    | n g a b i j => simp only [Ty.d, D.size, sizeAll, Ty.signs, i, j]; omega
  rw [s] at q
  omega
theorem join_Bd {sp : Str} (h : Bd 2 0 sp) : ∀ {l : List Str}, (∀ p ∈ l, Bd 300 7 p) → Bd (302 * l.length) (7 * l.length) (Txt.join sp l)
  | [], _ => by
    rw [TL.join_eq]
    exact ⟨(fun c hc => by cases hc), Nat.zero_le _, Nat.zero_le _⟩
  | [p], hp => by
    have := hp p List.mem_cons_self
    rw [TL.join_eq]
    exact ⟨this.c, Nat.le_trans this.l (by simp), this.k⟩
  | p :: q :: r, hp => by
    have i := join_Bd h (l := q :: r) fun z hz => hp z (List.mem_cons_of_mem _ hz)
    have j := ((hp p List.mem_cons_self).app h).app i
    rw [TL.join_eq] at j ⊢
    have e : Str.join sp (p :: q :: r) = p ++ sp ++ Str.join sp (q :: r) := by
      refine str_ext ?_
      rw [jn_is, cps_app, cps_app, jn_is]
      rfl
    rw [e]
    refine ⟨j.c, Nat.le_trans j.l ?_, Nat.le_trans j.k ?_⟩
    · simp only [List.length_cons]; omega
    · simp only [List.length_cons]; omega
theorem Bd.rd {n m : Nat} {x : Str} (h : Bd n m x) (hn : n ≤ 20000) (hm : m ≤ 50) : RdOk x := ⟨h.c, Nat.le_trans h.l hn, Nat.le_trans h.k hm⟩
theorem Bd.le {n m n' m' : Nat} {x : Str} (h : Bd n m x) (hn : n ≤ n') (hm : m ≤ m') : Bd n' m' x := ⟨h.c, Nat.le_trans h.l hn, Nat.le_trans h.k hm⟩
end V1

namespace KT
open PySem PySem.Spec PyProof.Rows L2
/-- a value may be told by less -/
theorem pe_weak {X : Cx} {e : Expr} {t t' : TE} (h : PE X e t) (w : ∀ σ H Q, t' σ H Q → t σ H Q) : PE X e t' := ⟨fun pins s σ H Q I q => h.run pins s σ H Q I (w σ H Q q)⟩
theorem passN {X : Cx} : Passes (L2.CX X.prog X.w) X E0 := fun pins σ H s e s' I c => passAt takes_none5 σ pins H s e s' I c
end KT
namespace V1
open PySem PySem.Spec PyProof.Rows L2 NdefX LamX KT
open PySem.W (Frag)
def KN (a : Addr) (H H' : Hp) : Prop := ∀ b o, H b = some o → (∀ ps, o ≠ .tbl ps) → b ≠ a → H' b = some o
theorem KN.ext {a : Addr} {H H' : Hp} (e : ExtN H H') : KN a H H' := fun b o h m _ => e b o h m
theorem KN.but {a : Addr} {H H' : Hp} (k : KeepBut a H H') : KN a H H' := fun b o h _ n => k b o h n
theorem KN.trans {a : Addr} {H H1 H2 : Hp} (h : KN a H H1) (h' : KN a H1 H2) : KN a H H2 := fun b o e m n => h' b o (h b o e m n) m n
theorem KN.lst {a b : Addr} {H H' : Hp} {xs : List V} (k : KN a H H') (e : H b = some (.lst xs)) (n : b ≠ a) : H' b = some (.lst xs) := k b _ e (fun ps z => by cases z) n
theorem KN.tk {a : Addr} {H H' : Hp} {n : Nat} (k : KN a H H') (p : PurseAt H a n) : TK H H' := fun q xs e => k q _ e (fun ps z => by cases z) fun z => by
  obtain ⟨_, _, _, _, e', _⟩ := p
  rw [z, e'] at e
  cases e
/-- what stands all along -/
structure Sb (T : List (Addr × Str)) (p Ls L0 : Addr) (n : Nat) (zs : List Str) (H : Hp) : Prop where
  d : Drawn H p Ls n zs
  t : Tabs T H
  l : H L0 = some (.lst [.ref p])
  n0 : L0 ≠ p
section
variable {T : List (Addr × Str)} {p Ls L0 : Addr} {n m : Nat} {zs : List Str} {H H' : Hp}
theorem Sb.ext (h : Sb T p Ls L0 n zs H) (e : ExtN H H') (t : Tabs T H') : Sb T p Ls L0 n zs H' := by
  obtain ⟨⟨⟨p0, p1, p2, p3, e0, r⟩, a2, a3, a4⟩, b, c, d⟩ := h
  exact ⟨⟨⟨p0, p1, p2, p3, extn_lst e e0, r⟩, a2, extn_lst e a3, a4⟩, t, extn_lst e c, d⟩
theorem Sb.same (h : Sb T p Ls L0 n zs H) (s : Same H H') : Sb T p Ls L0 n zs H' := h.ext (extn_same s) (h.t.ext s)
theorem Sb.but (h : Sb T p Ls L0 n zs H) (k : KeepBut p H H') (q : PurseAt H' p m) : Sb T p Ls L0 m zs H' := ⟨h.d.but k q, tabs_kb h.t h.d.p k, k _ _ h.l h.n0, h.n0⟩
theorem Sb.le (h : Sb T p Ls L0 n zs H) (l : n ≤ m) : Sb T p Ls L0 m zs H := ⟨{ h.d with p := h.d.p.mono l }, h.t, h.l, h.n0⟩
end
theorem tys_snoc {H : Hp} {us : List V} {ts : List Ty} {v : V} {t : Ty} (h : Tys H us ts) (hv : TyAt H v t) : Tys H (us ++ [v]) (ts ++ [t]) := by
  induction h with
  | nil => exact .cons hv .nil
  | cons a _ i => exact .cons a i
/-- a row and its texts -/
structure Rb (p R TX : Addr) (us : List V) (ts : List Ty) (H : Hp) : Prop where
  r : H R = some (.lst us)
  u : Tys H us ts
  x : H TX = some (.lst ((ts.map Ty.text).map V.str))
  nr : R ≠ p
  nx : TX ≠ p
theorem Rb.kn {p R TX : Addr} {us : List V} {ts : List Ty} {H H' : Hp} (h : Rb p R TX us ts H) (k : KN p H H') (tk : TK H H') : Rb p R TX us ts H' := ⟨k.lst h.r h.nr, h.u.mono tk, k.lst h.x h.nx, h.nr, h.nx⟩
theorem Rb.ext {p R TX : Addr} {us : List V} {ts : List Ty} {H H' : Hp} (h : Rb p R TX us ts H) (e : ExtN H H') : Rb p R TX us ts H' := h.kn (.ext e) (extn_tk e)
theorem Rb.row {p R TX : Addr} {us : List V} {ts : List Ty} {H : Hp} (h : Rb p R TX us ts H) : RowAt H R ts := ⟨us, h.r, h.u⟩
theorem cutV_one {x : V} {xs : List V} : cutV (x :: xs) none (some 1) = [x] := by
  unfold cutV
  rw [show (1 : Int) = ((1 : Nat) : Int) from rfl, HT.sIx_nat]
  have e : HT.sIx (x :: xs).length 0 none = 0 := rfl
  rw [e]
  simp
def ovK : Ty := .n .ov (.w "over") (.w "over")
theorem ovK_text : ("(over over over)" : Str) = ovK.text := by decide +kernel
theorem ovK_wok : ovK.wok := ⟨isWB_ok (by decide +kernel), isWB_ok (by decide +kernel)⟩
theorem tys_head {H : Hp} {u : V} {us : List V} {t : Ty} {ts : List Ty} (h : Tys H (u :: us) (t :: ts)) : TyAt H u t := by
  cases h with
  | cons a _ => exact a
/-- what a text says -/
def Good (H : Hp) (x : Str) (th : V) : Option Str → Prop
  | none => ∃ t : Ty, t.wok ∧ x = t.text ∧ TyAt H th t
  | some sp => ∃ (R : Addr) (us : List V) (ts : List Ty), th = .ref R ∧ H R = some (.lst us) ∧ Tys H us ts ∧ ofTexts sp x = ts.map Ty.d
theorem good_same {H : Hp} {x : Str} {th : V} {L L' : Addr} (hx : RdOk x) : ∀ {sep : Option Str}, Good H x th sep → AnsAt H L x sep → H L' = some (.lst [th]) → SameDt H 53 (.ref L) (.ref L')
  | none, ⟨t, h1, h2, h3⟩, h, e' => by
    subst h2
    have eo := ofText_text t h1
    rcases h with ⟨a, _⟩ | ⟨_, v, e, hv⟩
    · rw [eo, noD_d] at a
      cases a
    · obtain ⟨b1, b2⟩ := ofText_small hx
      rw [eo] at b1 b2 hv
      exact (SameDt.lst (k := 50) e e' rfl (by show 1 ≤ _; omega) (one_same ((SameDt.d 40000 (by omega) (Nat.le_refl _) hv h3.d).le b1))).le (by omega)
  | some sp, ⟨R, us, ts, h1, h2, h3, h4⟩, h, e' => by
    subst h1
    rcases h with ⟨a, _⟩ | ⟨_, M, us', e, eM, hv⟩
    · rw [h4, any_noD] at a
      cases a
    · obtain ⟨b1, b2⟩ := texts_small (sp := sp) hx
      rw [h4] at b1 b2 hv
      have hd := tys_ds h3
      exact (SameDt.lst (k := 51) e e' rfl (by show 1 ≤ _; omega) (one_same (SameDt.lst (k := 50) eM h2 (by rw [hv.length, hd.length]) (by rw [hv.length]; exact b2) (ds_same hv hd b1)))).le (by omega)
theorem Good.kn {p : Addr} {x : Str} {th : V} {H H' : Hp} (k : KN p H H') (tk : TK H H') : ∀ {sep : Option Str}, (∀ sp, sep = some sp → th ≠ .ref p) → Good H x th sep → Good H' x th sep
  | none, _, ⟨t, h1, h2, h3⟩ => ⟨t, h1, h2, h3.mono tk⟩
  | some sp, hn, ⟨R, us, ts, h1, h2, h3, h4⟩ => ⟨R, us, ts, h1, k.lst h2 (fun e => hn sp rfl (by rw [h1, e])), h3.mono tk, h4⟩
theorem AnsAt.same {H H' : Hp} {L : Addr} {x : Str} (s : Same H H') : ∀ {sep : Option Str}, AnsAt H L x sep → AnsAt H' L x sep
  | none, h => by
    rcases h with ⟨a, e⟩ | ⟨a, v, e, hv⟩
    · exact .inl ⟨a, s _ _ e⟩
    · exact .inr ⟨a, v, s _ _ e, hv.mono (TK.of_same s)⟩
  | some sp, h => by
    rcases h with ⟨a, e⟩ | ⟨a, M, us, e, eM, hv⟩
    · exact .inl ⟨a, s _ _ e⟩
    · exact .inr ⟨a, M, us, s _ _ e, s _ _ eM, hv.mono (TK.of_same s)⟩
structure VRs (P : Program) (w : World) (K : Frag) (mg : Str → Option Value) (base : Heap) (T : List (Addr × Str)) (C fPs fPl fD fK fT fE fKT fRT fKsT fR fDu fB fRR fRKs fRK : Addr) (dPs dPl dD dK dT dE dKT dRT dKsT dR dDu dB dRR dRKs dRK : FuncData) : Prop where
  TPs : Top K mg "_law_purses" sLPurses ["script", "few"] fPs dPs
  TPl : Top K mg "_law_plains" sLPlains pLPlains fPl dPl
  TD : Top K mg "_law_draw" sLDraw ["purse", "many"] fD dD
  TK_ : Top K mg "_law_kind" sLKind pLKind fK dK
  TT : Top K mg "_law_text" sLText pLText fT dT
  TE : Top K mg "_law_exact" sLExact pLExact fE dE
  TKT : Top K mg "kind_text" sKindText pKindText fKT dKT
  TRT : Top K mg "row_text" sRowText pRowText fRT dRT
  TKsT : Top K mg "kinds_text" sKindsText pKindsText fKsT dKsT
  TR : Top K mg "_law_read" sLRead pLRead fR dR
  TDu : Top K mg "_law_due" sLDue pLDue fDu dDu
  TB : Top K mg "_law_bent" sLBent pLBent fB dB
  TRR : Top K mg "read_row" sReadRow pReadRow fRR dRR
  TRKs : Top K mg "read_kinds" sReadKinds pReadKinds fRKs dRKs
  TRK : Top K mg "read_kind" sReadKind pReadKind fRK dRK
  GPs : FnOk P w K mg base CX0 2 fPs dPs ["script", "few"] (spPurses K)
  GPl : FnOk P w K mg base CX0 5 fPl dPl pLPlains spPlains
  GD : FnOk P w K mg base CX0 2 fD dD ["purse", "many"] spDraw
  GK : FnOk P w K mg base CX0 11 fK dK pLKind (spKind 7)
  GT : FnOk P w K mg base CX0 9 fT dT pLText (spLText 8)
  GE : FnOk P w K mg base CX0 61 fE dE pLExact (spExact 60)
  GKT : FnOk P w K mg base CX0 7 fKT dKT pKindText (spKindText T)
  GRT : FnOk P w K mg base CX0 7 fRT dRT pRowText (spRowText (", " : Str) T)
  GKsT : FnOk P w K mg base CX0 7 fKsT dKsT pKindsText (spRowText ("\n" : Str) T)
  GR : FnOk P w K mg base CX0 10 fR dR pLRead (spLRead T)
  GDu : FnOk P w K mg base CX0 63 fDu dDu pLDue spLDue
  GB : FnOk P w K mg base CX0 4 fB dB pLBent spLBent
  GRR : FnOk P w K mg base (L2.CX P w) 9 fRR dRR pReadRow (spRead (some (", " : Str)) C T)
  GRKs : FnOk P w K mg base (L2.CX P w) 9 fRKs dRKs pReadKinds (spRead (some ("\n" : Str)) C T)
  GRK : FnOk P w K mg base (L2.CX P w) 8 fRK dRK pReadKind (spRead none C T)
section
variable {P : Program} {w : World} {K : Frag} {mg : Str → Option Value} {base : Heap} {Tb : List (Addr × Str)}
def tSome : TE := fun σ H Q => ∃ (p Lp : Addr) (n : Nat) (zs : List Str), σ[1]? = some (some (.ref p)) ∧ σ[2]? = some (some (.ref Lp)) ∧ Drawn H p Lp n zs ∧ n ≤ 1000 ∧ ∀ Ls zs' H', KeepBut p H H' → Drawn H' p Ls (n + 1) zs' → Q (.ref Ls) H'
def spLaw31 (K : Frag) (Tb : List (Addr × Str)) : Sp := fun vs H Q _ => ∃ (a : Addr) (ns : List Int), vs = [.ref a] ∧ SqL K H a (ns.map V.int) ∧ Tabs Tb H ∧ ∀ H', Q (.bl true) H'
theorem ok_law31 {f C fPs fPl fD fK fT fE fKT fRT fKsT fR fDu fB fRR fRKs fRK : Addr} {fd dPs dPl dD dK dT dE dKT dRT dKsT dR dDu dB dRR dRKs dRK : FuncData} (T0 : Top K mg "law" sLaw pLaw f fd) (R0 : VRs P w K mg base Tb C fPs fPl fD fK fT fE fKT fRT fKsT fR fDu fB fRR fRKs fRK dPs dPl dD dK dT dE dKT dRT dKsT dR dDu dB dRR dRKs dRK) (B : Blt mg) : FnOk P w K mg base CX0 64 f fd pLaw (spLaw31 K Tb) := by
  obtain ⟨TPs, TPl, TD, TK_, TT, TE, TKT, TRT, TKsT, TR, TDu, TB, TRR, TRKs, TRK, GPs, GPl, GD, GK, GT, GE, GKT, GRT, GKsT, GR, GDu, GB_, GRR, GRKs, GRK⟩ := R0
  refine T0.F.ok scLaw (fun vs H Q E h => ?_) (fun cdv A outer s H vs Q E hr h => ?_)
  · obtain ⟨_, _, rfl, _⟩ := h
    rfl
  · obtain ⟨a, ns, rfl, hq, hT, k⟩ := h
    have hr2 : Room 2 _ := hr.mono (by decide)
    have hr4 : Room 4 _ := hr.mono (by decide)
    have hr5 : Room 5 _ := hr.mono (by decide)
    have hr7 : Room 7 _ := hr.mono (by decide)
    have hr8 : Room 8 _ := hr.mono (by decide)
    have hr9 : Room 9 _ := hr.mono (by decide)
    have hr10 : Room 10 _ := hr.mono (by decide)
    have hr11 : Room 11 _ := hr.mono (by decide)
    have hr61 : Room 61 _ := hr.mono (by decide)
    have hr63 : Room 63 _ := hr
    refine ⟨_, (pss_cons (ps_for PassesOwn.never rfl (pi_list (pe_call GPs hr2 rfl TPs.g TPs.F.kp TPs.b .nil pass0 (pa_cons (pv 0) (pa_cons pe_int pa_nil)))) (pg_name (i := 1) scLaw.nd rfl (Or.inr rfl))
      (pss_cons (ps_set (i := 2) scLaw.nd rfl (Or.inl rfl) (pe_call GPl hr5 rfl TPl.g TPl.F.kp TPl.b .nil pass0 (pa_cons (pv 1) (pa_cons pe_int pa_nil))))
      (pss_cons (ps_set (i := 3) scLaw.nd rfl (Or.inr rfl) (KT.pe_weak (t' := tSome) (pe_ifExp (pt_cmpR op_gt (pe_call GD hr2 rfl TD.g TD.F.kp TD.b .nil pass0 (pa_cons (pv 1) (pa_cons pe_int pa_nil))) pe_int (nomark _)) (pv 2) (pe_lst (pa_cons pe_str (pa_cons pe_str (pa_cons pe_str pa_nil))))) (fun σ H' Q' h => by
                                        obtain ⟨p, Lp, n, zs, e1, e2, dr, hn, kk⟩ := h
                                        refine ⟨_, e1, p, n, _, rfl, dr.p, by omega, by decide, by decide, fun d H1 d0 d1 off hp => ⟨_, _, rfl, rfl, _, rfl, ite2 (fun _ => ?_) (fun _ => ?_)⟩⟩
                                        · exact ⟨_, e2, kk Lp zs H1 (.of_off off) (dr.but (.of_off off) hp)⟩
                                        · exact ⟨by show 3 ≤ sizeLine; rw [sizeLine_eq]; omega, fun q nq => kk q ["over", "then", "under"] _ ((KeepBut.of_off off).trans (.of_same (same_upd nq))) ⟨hp.upd (hp.ne nq), (hp.ne nq).symm, upd_same, plainsB_ok (by decide +kernel)⟩⟩)))
      (pss_one (ps_for PassesOwn.never rfl (pi_range1 (by rfl) B.range (pa_cons pe_int pa_nil)) (pg_name (i := 4) scLaw.nd rfl (Or.inl rfl))
      (pss_cons (ps_setLc (i := 6) (own := [("late", 5)]) (g := (gName 5)) (tt := tYes) rfl scLaw.nd rfl rfl (by rfl) (pi_range1 (by rfl) B.range (pa_cons (pe_op op_add pe_int (pe_call GD hr2 rfl TD.g TD.F.kp TD.b .nil pass0 (pa_cons (pv 1) (pa_cons pe_int pa_nil)))) pa_nil)) (blkOk_by (N := nLaw) (sc := defScope sLaw) (by decide +kernel)) (fun _ _ _ _ _ => pg_name (i := 5) scLaw.nd rfl (Or.inl rfl)) (fun _ _ _ _ _ => pts_nil) (fun _ _ _ _ _ => (pe_call GK hr11 rfl TK_.g TK_.F.kp TK_.b .nil pass0 (pa_cons (pv 1) (pa_cons (pv 3) (pa_cons (pe_call GD hr2 rfl TD.g TD.F.kp TD.b .nil pass0 (pa_cons (pv 1) (pa_cons pe_int pa_nil))) pa_nil))))))
      (pss_cons (ps_setLc (i := 7) (own := [("kind", 13)]) (g := (gName 13)) (tt := tYes) rfl scLaw.nd rfl rfl (by rfl) (pi_list (pv 6)) (blkOk_by (N := nLaw) (sc := defScope sLaw) (by decide +kernel)) (fun _ _ _ _ _ => pg_name (i := 13) scLaw.nd rfl (Or.inl rfl)) (fun _ _ _ _ _ => pts_nil) (fun _ _ _ _ _ => (pe_call GT hr9 rfl TT.g TT.F.kp TT.b .nil pass0 (pa_cons (pv 13) pa_nil))))
      (pss_cons (ps_if (pt_not (pt_val (pe_call GE hr61 rfl TE.g TE.F.kp TE.b .nil pass0 (pa_cons (pe_lst (pa_cons (pe_call GKT hr7 rfl TKT.g TKT.F.kp TKT.b .nil pass0 (pa_cons (pe_ix ix_list (pv 6) pe_int (fun _ _ => rfl)) pa_nil)) (pa_cons (pe_call GRT hr7 rfl TRT.g TRT.F.kp TRT.b .nil pass0 (pa_cons (pv 6) pa_nil)) (pa_cons (pe_call GKsT hr7 rfl TKsT.g TKsT.F.kp TKsT.b .nil pass0 (pa_cons (pv 6) pa_nil)) pa_nil)))) (pa_cons (pe_lst (pa_cons (pe_ix ix_list (pv 7) pe_int (fun _ _ => rfl)) (pa_cons (pe_join pe_str (pv 7)) (pa_cons (pe_join pe_str (pv 7)) pa_nil)))) pa_nil))))) pss_never pss_nil)
      (pss_cons (ps_for PassesOwn.never rfl (pi_tup (pe_tup (pa_cons (pe_tup (pa_cons pe_str (pa_cons (pe_ix ix_list (pv 7) pe_int (fun _ _ => rfl)) (pa_cons (pe_ix ix_list (pv 6) pe_int (fun _ _ => rfl)) pa_nil)))) (pa_cons (pe_tup (pa_cons pe_str (pa_cons (pe_join pe_str (pv 7)) (pa_cons (pv 6) pa_nil)))) (pa_cons (pe_tup (pa_cons pe_str (pa_cons (pe_join pe_str (pv 7)) (pa_cons (pv 6) pa_nil)))) pa_nil))))) (pg_tup (by rfl) (pgs_cons (pg_name (i := 8) scLaw.nd rfl (Or.inl rfl)) (pgs_cons (pg_name (i := 9) scLaw.nd rfl (Or.inl rfl)) (pgs_cons (pg_name (i := 10) scLaw.nd rfl (Or.inl rfl)) pgs_nil))))
      (pss_cons (ps_if (pt_not (pt_val (pe_call GE hr61 rfl TE.g TE.F.kp TE.b .nil pass0 (pa_cons (pe_call GR hr10 rfl TR.g TR.F.kp TR.b .nil pass0 (pa_cons (pv 8) (pa_cons (pv 9) pa_nil))) (pa_cons (pe_lst (pa_cons (pv 10) pa_nil)) pa_nil))))) pss_never pss_nil)
      (pss_one (ps_for PassesOwn.never rfl (pi_range1 (by rfl) B.range (pa_cons pe_int pa_nil)) (pg_name (i := 5) scLaw.nd rfl (Or.inl rfl))
      (pss_cons (ps_set (i := 11) scLaw.nd rfl (Or.inl rfl) (pe_call GB_ hr4 rfl TB.g TB.F.kp TB.b .nil pass0 (pa_cons (pv 1) (pa_cons (pv 9) pa_nil))))
      (pss_one (ps_if (pt_not (pt_val (pe_call GE hr61 rfl TE.g TE.F.kp TE.b .nil pass0 (pa_cons (pe_call GR hr10 rfl TR.g TR.F.kp TR.b .nil pass0 (pa_cons (pv 8) (pa_cons (pv 11) pa_nil))) (pa_cons (pe_call GDu hr63 rfl TDu.g TDu.F.kp TDu.b .nil pass0 (pa_cons (pv 8) (pa_cons (pv 11) pa_nil))) pa_nil))))) pss_never pss_nil)))))))
      (pss_cons (ps_set (i := 12) scLaw.nd rfl (Or.inl rfl) (pe_call GRR hr9 rfl TRR.g TRR.F.kp TRR.b .nil KT.passN (pa_cons (pe_join pe_str (pv 7)) pa_nil)))
      (pss_cons (ps_expr (pe_bm PySem.F.plainAttrs_list PySem.F.slot_list_append PySem.F.type_list_append mt_append (pv 12) (pa_cons pe_str pa_nil)))
      (pss_one (ps_if (pt_not (pt_val (pe_call GE hr61 rfl TE.g TE.F.kp TE.b .nil pass0 (pa_cons (pe_lst (pa_cons (pe_call GRR hr9 rfl TRR.g TRR.F.kp TRR.b .nil KT.passN (pa_cons (pe_join pe_str (pv 7)) pa_nil)) (pa_cons (pe_call GRKs hr9 rfl TRKs.g TRKs.F.kp TRKs.b .nil KT.passN (pa_cons (pe_ix ix_list (pv 7) pe_int (fun _ _ => rfl)) pa_nil)) (pa_cons (pe_call GRK hr8 rfl TRK.g TRK.F.kp TRK.b .nil KT.passN (pa_cons pe_str pa_nil)) pa_nil)))) (pa_cons (pe_lst (pa_cons (pv 6) (pa_cons (pe_slice sl_list (pv 6) po_none (po_some pe_int)) (pa_cons (pe_tup (pa_cons pe_str (pa_cons pe_str (pa_cons pe_str pa_nil)))) pa_nil)))) pa_nil))))) pss_never pss_nil)))))))))))))
      (pss_one (ps_ret pe_bl))), ?_⟩
    have sz1 : 1 ≤ sizeLine := by rw [sizeLine_eq]; omega
    have sz2 : 2 ≤ sizeLine := by rw [sizeLine_eq]; omega
    have sz3 : 3 ≤ sizeLine := by rw [sizeLine_eq]; omega
    refine ⟨_, rfl, a, ns, rfl, hq, fun L0 p H1 s1 nL0 np nLp eL0 hp1 => ⟨L0, rfl, ⟨_, SqL.of eL0⟩, ?_⟩⟩
    refine for_list (K := K) (xs := [.ref p]) (fun i σ H' => ∃ (v1 v2 v3 v4 v5 v6 v7 v8 v9 v10 v11 v12 v13 : Option V), σ = [some (.ref a), v1, v2, v3, v4, v5, v6, v7, v8, v9, v10, v11, v12, v13] ∧ H' L0 = some (.lst [.ref p]) ∧ (i = 0 → PurseAt H' p 0 ∧ Tabs Tb H'))
      ⟨none, none, none, none, none, none, none, none, none, none, none, none, none, rfl, eL0, fun _ => ⟨hp1, hT.ext s1⟩⟩ (fun i σ H' _ ⟨_, _, _, _, _, _, _, _, _, _, _, _, _, _, e, _⟩ => SqL.of e) ?_ ?_
    · rintro i x σ H2 hx ⟨v1, v2, v3, v4, v5, v6, v7, v8, v9, v10, v11, v12, v13, rfl, eL, hpT⟩
      obtain ⟨rfl, rfl⟩ : i = 0 ∧ x = .ref p := by
        match i, hx with
        | 0, hx => exact ⟨rfl, (Option.some.inj hx).symm⟩
        | j + 1, hx => exact absurd hx (by simp)
      obtain ⟨hp, hT2⟩ := hpT rfl
      refine ⟨_, rfl, p, _, 3, rfl, hp, by omega, by omega, by omega, fun Lp zs0 H3 hz hl3 kb3 nLp3 eLp hp3 => ?_⟩
      have nLpp := (hp.ne nLp3).symm
      have dr3 : Drawn H3 p Lp 60 zs0 := ⟨hp3.mono (by omega), nLpp, eLp, hz⟩
      have eL3 := kb3 _ _ eL nLp
      have T3 := tabs_kb hT2 hp kb3
      refine ⟨p, Lp, 60, zs0, rfl, rfl, dr3, by omega, fun Ls zs H4 kb4 dr4 => ?_⟩
      have sb4 : Sb Tb p Ls L0 61 zs H4 := ⟨dr4, tabs_kb T3 dr3.p kb4, kb4 _ _ eL3 nLp, nLp⟩
      refine ⟨3, rfl, by omega, by omega, ?_⟩
      refine for_range (lo := 0) (n := 3) (fun j σ H' => ∃ (v4 v5 v6 v7 v8 v9 v10 v11 v12 v13 : Option V), σ = [some (.ref a), some (.ref p), some (.ref Lp), some (.ref Ls), v4, v5, v6, v7, v8, v9, v10, v11, v12, v13] ∧ Sb Tb p Ls L0 (61 + 1000 * j) zs H')
        ⟨v4, v5, v6, v7, v8, v9, v10, v11, v12, v13, rfl, sb4⟩ ?_ ?_
      · rintro j σ H5 hj ⟨v4, v5, v6, v7, v8, v9, v10, v11, v12, v13, rfl, sb5⟩
        refine ⟨_, rfl, p, _, 5, rfl, sb5.d.p, by omega, by decide, by decide, fun d H6 d0 d1 off6 hp6 => ⟨_, _, rfl, rfl, ?_⟩⟩
        obtain ⟨m5, rfl⟩ := Int.eq_ofNat_of_zero_le d0
        have em : (1 : Int) + ((m5 : Nat) : Int) = ((1 + m5 : Nat) : Int) := by omega
        have sb6 := sb5.but (.of_off off6) hp6
        refine ⟨((1 + m5 : Nat) : Int), congrArg (fun z => [V.int z]) em, by omega, by omega, fun D hD => ?_⟩
        have nDp : D ≠ p := (sb6.d.p.ne hD).symm
        rw [Int.toNat_natCast]
        refine lc_range (lo := 0) (n := 1 + m5) (fun i H' => ∃ us ts, H' D = some (.lst us) ∧ Tys H' us ts ∧ ts.length = i ∧ (∀ t ∈ ts, t.signs ≤ 7) ∧ KeepBut p H6 H' ∧ PurseAt H' p (61 + 1000 * j + 1 + 23 * i)) ⟨[], [], upd_same, .nil, rfl, (fun t ht => by cases ht), .of_same (same_upd hD), hp6.upd nDp.symm⟩ ?_ ?_
        · rintro i H7 hi ⟨us, ts, eD, hU, hts, hsg, kb7, hp7⟩
          have sb7 := sb6.but kb7 hp7
          refine ⟨rfl, _, rfl, _, rfl, _, rfl, p, _, 8, rfl, sb7.d.p, by omega, by decide, by decide, fun d8 H8 e0 e1 off8 hp8 => ?_⟩
          obtain ⟨m8, rfl⟩ := Int.eq_ofNat_of_zero_le e0
          have kb8 : KeepBut p H7 H8 := .of_off off8
          have sb8 := sb7.but kb8 hp8
          refine ⟨p, Ls, _, m8, zs, rfl, sb8.d.p, by omega, sb8.d.ne, sb8.d.l, sb8.d.z, by omega, fun v t H9 hv hs _ kb9 hp9 => ?_⟩
          have sb9 := sb8.but kb9 hp9
          have kb := kb8.trans kb9
          have tk9 := (TK.of_keepBut kb8 sb7.d.p).trans (TK.of_keepBut kb9 sb8.d.p)
          have eD9 := kb _ _ eD nDp
          have lU := (hU.mono tk9).length
          refine ⟨us, eD9, by rw [sizeLine_eq]; omega, us ++ [v], ts ++ [t], upd_same, ?_, by rw [List.length_append, hts]; rfl, ?_, ?_⟩
          · have tkw : TK H9 (upd H9 D (.lst (us ++ [v]))) := TK.upd_lst eD9
            exact tys_snoc ((hU.mono tk9).mono tkw) (hv.mono tkw)
          · intro u hu
            rcases List.mem_append.mp hu with hu | hu
            · exact hsg u hu
            · rw [List.mem_singleton.mp hu]; omega
          · exact ⟨(kb7.trans kb).upd_new hD, (hp9.mono (by omega)).upd nDp.symm⟩
        · rintro H7 ⟨us, ts, eD, hU, hts, hsg, kb7, hp7⟩
          have sb7 := sb6.but kb7 hp7
          have lU := hU.length
          have wk := tys_wok hU
          dsimp only
          have bd : ∀ t ∈ ts, t.d.dep ≤ 7 ∧ t.d.size ≤ 300 ∧ Bd 300 7 t.text := fun t ht => by
            have b := text_Bd (wk t ht) (hsg t ht)
            obtain ⟨q1, q2, q3⟩ := text_bd t (wk t ht)
            have := b.l
            have := hsg t ht
            exact ⟨by omega, by omega, b⟩
          refine ⟨_, rfl, D, rfl, ⟨_, SqL.of eD⟩, fun X hX => ?_⟩
          have nXp : X ≠ p := (hp7.ne hX).symm
          refine lc_list (K := K) (xs := us) (fun i H' => Same H7 H' ∧ H' X = some (.lst (((ts.take i).map Ty.text).map V.str))) ⟨same_upd hX, upd_same⟩ (fun i H' _ q => SqL.of (q.1 _ _ eD)) ?_ ?_
          · rintro i x H8 hx ⟨s8, eX⟩
            obtain ⟨t, ht, hxt⟩ := hU.at_ hx
            obtain ⟨b1, b2, b3⟩ := bd t (List.mem_of_getElem? ht)
            refine ⟨rfl, _, rfl, x, t, rfl, hxt.mono (TK.of_same s8), by omega, by omega, _, eX, by rw [List.length_map, List.length_map, List.length_take, sizeLine_eq]; omega, same_over s8 hX, ?_⟩
            rw [upd_same, List.take_add_one, ht, List.map_append, List.map_append]
            rfl
          · rintro H8 ⟨s8, eX⟩
            rw [lU, List.take_length] at eX
            dsimp only
            have rb8 : Rb p D X us ts H8 := ⟨s8 _ _ eD, hU.mono (TK.of_same s8), eX, nDp, nXp⟩
            have sb8 := sb7.same s8
            have hne : ts ≠ [] := fun e => by rw [e] at hts; exact absurd hts (by show ¬ 0 = 1 + m5; omega)
            have l5 : ts.length ≤ 5 := by omega
            clear eX s8
            obtain ⟨t0, tr, rfl⟩ : ∃ t0 tr, ts = t0 :: tr := by
              cases ts with
              | nil => exact absurd rfl hne
              | cons a b => exact ⟨a, b, rfl⟩
            obtain ⟨u0, ur, rfl⟩ : ∃ u0 ur, us = u0 :: ur := by
              cases us with
              | nil => simp at lU
              | cons a b => exact ⟨a, b, rfl⟩
            refine gN ?_
            have hu0 : TyAt H8 u0 t0 := by
              have q := rb8.u
              cases q with
              | cons a _ => exact a
            have bd60 : ∀ t ∈ t0 :: tr, t.d.dep ≤ 60 ∧ t.d.size ≤ 1000 := fun t ht => by
              obtain ⟨b1, b2, _⟩ := bd t ht
              exact ⟨by omega, by omega⟩
            obtain ⟨b01, b02, b03⟩ := bd t0 List.mem_cons_self
            refine ⟨_, rfl, D, _, _, _, rfl, rfl, SqL.of rb8.r, atI_nat (j := 0) rfl, u0, t0, rfl, hu0, by omega, by omega, sb8.t, fun H9 e9 T9 => ?_⟩
            refine ⟨_, rfl, D, t0 :: tr, rfl, (rb8.ext e9).row, hne, by omega, bd60, T9, fun H10 e10 T10 => ?_⟩
            refine ⟨_, rfl, D, t0 :: tr, rfl, ((rb8.ext e9).ext e10).row, hne, by omega, bd60, T10, fun H11 e11 T11 => ⟨sz3, fun A1 nA1 => ?_⟩⟩
            have e811 := (e9.trans e10).trans e11
            have rb11 := rb8.ext e811
            have sb11 := sb8.ext e811 T11
            have sA1 := same_upd (o := .lst [.str t0.text, .str (Txt.join (", " : Str) ((t0 :: tr).map Ty.text)), .str (Txt.join ("\n" : Str) ((t0 :: tr).map Ty.text))]) nA1
            have eA1 := upd_same (H := H11) (a := A1) (o := .lst [.str t0.text, .str (Txt.join (", " : Str) ((t0 :: tr).map Ty.text)), .str (Txt.join ("\n" : Str) ((t0 :: tr).map Ty.text))])
            generalize upd H11 A1 (.lst [.str t0.text, .str (Txt.join (", " : Str) ((t0 :: tr).map Ty.text)), .str (Txt.join ("\n" : Str) ((t0 :: tr).map Ty.text))]) = H12 at sA1 eA1 ⊢
            have rb12 := rb11.ext (extn_same sA1)
            have sb12 := sb11.same sA1
            have jsum : (((t0 :: tr).map Ty.text).map (·.length)).sum ≤ 5000 := by
              have q := sum_le (l := ((t0 :: tr).map Ty.text).map (·.length)) (b := 1000) fun x hx => by
                obtain ⟨y, hy, rfl⟩ := List.mem_map.mp hx
                obtain ⟨t, ht, rfl⟩ := List.mem_map.mp hy
                obtain ⟨_, _, b⟩ := bd t ht
                have := b.l
                omega
              rw [List.length_map, List.length_map] at q
              omega
            have jc : (((t0 :: tr).map Ty.text).map (·.length)).sum + ((t0 :: tr).map Ty.text).length * ((", " : Str)).length ≤ 16777216 := by
              have l2 : ((", " : Str)).length = 2 := by decide +kernel
              rw [l2, List.length_map]
              omega
            have jl : (((t0 :: tr).map Ty.text).map (·.length)).sum + ((t0 :: tr).map Ty.text).length * (("\n" : Str)).length ≤ 16777216 := by
              have l2 : (("\n" : Str)).length = 1 := by decide +kernel
              rw [l2, List.length_map]
              omega
            refine ⟨_, rfl, X, _, _, _, rfl, rfl, SqL.of rb12.x, atI_nat (j := 0) rfl, ⟨_, rfl⟩, _, rfl, _, _, _, rfl, rfl, .inl (SqL.of rb12.x), jc, ⟨_, rfl⟩, _, rfl, _, _, _, rfl, rfl, .inl (SqL.of rb12.x), jl, sz3, fun A2 nA2 => ⟨_, _, rfl, ?_, fun H13 s13 => ⟨true, rfl, iteF ?_⟩⟩⟩
            · exact (SameDt.lst (k := 0) ((same_upd nA2) _ _ eA1) upd_same rfl (by show 3 ≤ _; omega) (three_same (.scl (.s _)) (.scl (.s _)) (.scl (.s _)))).le (by omega)
            have s1213 := (same_upd nA2).trans s13
            have rb13 := rb12.ext (extn_same s1213)
            have sb13 := sb12.same s1213
            clear eA1
            refine ⟨_, rfl, X, _, _, _, rfl, rfl, SqL.of rb13.x, atI_nat (j := 0) rfl, _, rfl, D, _, _, _, rfl, rfl, SqL.of rb13.r, atI_nat (j := 0) rfl, sz3, fun T1 nT1 => ?_⟩
            have sT1 := same_upd (o := .tup [.str "kind", .str t0.text, u0]) nT1
            have eT1 := upd_same (H := H13) (a := T1) (o := .tup [.str "kind", .str t0.text, u0])
            generalize upd H13 T1 (.tup [.str "kind", .str t0.text, u0]) = H14 at sT1 eT1 ⊢
            have rb14 := rb13.ext (extn_same sT1)
            refine ⟨⟨_, rfl⟩, _, rfl, _, _, _, rfl, rfl, .inl (SqL.of rb14.x), jc, _, rfl, sz3, fun T2 nT2 => ?_⟩
            have sT2 := same_upd (o := .tup [.str "row", .str (Txt.join (", " : Str) ((t0 :: tr).map Ty.text)), .ref D]) nT2
            have eT2 := upd_same (H := H14) (a := T2) (o := .tup [.str "row", .str (Txt.join (", " : Str) ((t0 :: tr).map Ty.text)), .ref D])
            generalize upd H14 T2 (.tup [.str "row", .str (Txt.join (", " : Str) ((t0 :: tr).map Ty.text)), .ref D]) = H15 at sT2 eT2 ⊢
            have rb15 := rb14.ext (extn_same sT2)
            refine ⟨⟨_, rfl⟩, _, rfl, _, _, _, rfl, rfl, .inl (SqL.of rb15.x), jl, _, rfl, sz3, fun T3 nT3 => ⟨sz3, fun T4 nT4 => ⟨T4, rfl, ⟨_, SqT.of upd_same⟩, ?_⟩⟩⟩
            have sT3 := same_upd (o := .tup [.str "kinds", .str (Txt.join ("\n" : Str) ((t0 :: tr).map Ty.text)), .ref D]) nT3
            have eT3 := upd_same (H := H15) (a := T3) (o := .tup [.str "kinds", .str (Txt.join ("\n" : Str) ((t0 :: tr).map Ty.text)), .ref D])
            generalize upd H15 T3 (.tup [.str "kinds", .str (Txt.join ("\n" : Str) ((t0 :: tr).map Ty.text)), .ref D]) = H16 at sT3 eT3 nT4 ⊢
            have sT4 := same_upd (o := .tup [.ref T1, .ref T2, .ref T3]) nT4
            have eT4 := upd_same (H := H16) (a := T4) (o := .tup [.ref T1, .ref T2, .ref T3])
            generalize upd H16 T4 (.tup [.ref T1, .ref T2, .ref T3]) = H17 at sT4 eT4 ⊢
            have s1317 := sT1.trans (sT2.trans (sT3.trans sT4))
            have rb17 := rb15.ext (extn_same (sT3.trans sT4))
            have sb17 := (sb13.same s1317).le (show 61 + 1000 * j + 1 + 23 * (1 + m5) ≤ 61 + 1000 * j + 200 by omega)
            have eT1' := (sT2.trans (sT3.trans sT4)) _ _ eT1
            have eT2' := (sT3.trans sT4) _ _ eT2
            have eT3' := sT4 _ _ eT3
            have wk17 := tys_wok rb17.u
            have hu17 : TyAt H17 u0 t0 := by
              have q := rb17.u
              cases q with
              | cons a _ => exact a
            have bc : Bd 2 0 (", " : Str) := ⟨by decide +kernel, by decide +kernel, by decide +kernel⟩
            have bl : Bd 2 0 ("\n" : Str) := ⟨by decide +kernel, by decide +kernel, by decide +kernel⟩
            have lts : ((t0 :: tr).map Ty.text).length ≤ 5 := by rw [List.length_map]; exact l5
            have b300 : ∀ q ∈ (t0 :: tr).map Ty.text, Bd 300 7 q := fun q hq => by
              obtain ⟨t, ht, rfl⟩ := List.mem_map.mp hq
              exact (bd t ht).2.2
            have B1 : Bd 15000 40 t0.text := b03.le (by decide) (by decide)
            have B2 : Bd 15000 40 (Txt.join (", " : Str) ((t0 :: tr).map Ty.text)) := (join_Bd bc b300).le (by omega) (by omega)
            have B3 : Bd 15000 40 (Txt.join ("\n" : Str) ((t0 :: tr).map Ty.text)) := (join_Bd bl b300).le (by omega) (by omega)
            have jco := join_comma hne wk17
            have jli := join_line hne wk17
            have items : ∀ (i : Nat) (x : V), [V.ref T1, .ref T2, .ref T3][i]? = some x → ∃ (Tq : Addr) (wy : Way) (xt : Str) (th : V), x = .ref Tq ∧ H17 Tq = some (.tup [.str wy.nm, .str xt, th]) ∧ Bd 15000 40 xt ∧ Good H17 xt th wy.sep ∧ ∀ sp, wy.sep = some sp → th ≠ .ref p := by
              intro i x hx
              match i, hx with
              | 0, hx => exact ⟨T1, .kind, _, _, (Option.some.inj hx).symm, eT1', B1, ⟨t0, wk17 t0 List.mem_cons_self, rfl, hu17⟩, fun sp z => by cases z⟩
              | 1, hx => exact ⟨T2, .row, _, _, (Option.some.inj hx).symm, eT2', B2, ⟨D, _, _, rfl, rb17.r, rb17.u, jco⟩, fun sp _ z => nDp (by injection z)⟩
              | 2, hx => exact ⟨T3, .kinds, _, _, (Option.some.inj hx).symm, eT3', B3, ⟨D, _, _, rfl, rb17.r, rb17.u, jli⟩, fun sp _ z => nDp (by injection z)⟩
              | n + 3, hx => exact absurd hx (by simp)
            refine for_it (walk_tup (xs := [V.ref T1, .ref T2, .ref T3])) (fun i σ H' => ∃ (v5 v8 v9 v10 v11 v12 v13 : Option V), σ = [some (.ref a), some (.ref p), some (.ref Lp), some (.ref Ls), some (.int (0 + (j : Int))), v5, some (.ref D), some (.ref X), v8, v9, v10, v11, v12, v13] ∧ KN p H17 H' ∧ Sb Tb p Ls L0 (61 + 1000 * j + 200 + 30 * i) zs H')
              ⟨v5, v8, v9, v10, v11, v12, v13, rfl, .but (.refl _ _), sb17⟩ ?_ ?_ ?_
            · rintro i σ H' _ ⟨_, _, _, _, _, _, _, _, k17, _⟩
              exact SqT.of (k17.tk sb17.d.p _ _ eT4)
            · rintro i x σ H18 H18' hi ⟨v5, v8, v9, v10, v11, v12, v13, rfl, k18, sb18⟩ ⟨rfl, hx⟩
              obtain ⟨Tq, wy, xt, th, rfl, eTq, hB, hG, hth⟩ := items i x hx
              have hRd : RdOk xt := hB.rd (by decide) (by decide)
              have tk18 := k18.tk sb17.d.p
              have hG18 := hG.kn k18 tk18 hth
              refine ⟨Tq, _, rfl, SqT.of (tk18 _ _ eTq), rfl, _, _, rfl, _, _, rfl, _, _, rfl, rfl, ?_⟩
              refine ⟨_, rfl, _, rfl, wy, xt, rfl, hRd, sb18.t, fun LA H19 e19 T19 hA => ⟨_, rfl, sz1, fun A nA => ?_⟩⟩
              have sA := same_upd (o := .lst [th]) nA
              refine ⟨_, _, rfl, (good_same hRd (hG18.kn (p := p) (.ext (e19.trans (extn_same sA))) (extn_tk (e19.trans (extn_same sA))) hth) (hA.same sA) upd_same).le (by omega), fun H20 s20 => ⟨true, rfl, iteF ?_⟩⟩
              have s1920 := sA.trans s20
              have sb20 := (sb18.ext e19 T19).same s1920
              have k20 := (k18.trans (.ext e19)).trans (.ext (extn_same s1920))
              refine ⟨6, rfl, by omega, by omega, ?_⟩
              refine for_range (lo := 0) (n := 6) (fun l σ H' => ∃ (v5 v11 : Option V), σ = [some (.ref a), some (.ref p), some (.ref Lp), some (.ref Ls), some (.int (0 + (j : Int))), v5, some (.ref D), some (.ref X), some (.str wy.nm), some (.str xt), some th, v11, v12, v13] ∧ KN p H17 H' ∧ Sb Tb p Ls L0 (61 + 1000 * j + 200 + 30 * i + 3 * l) zs H')
                ⟨v5, v11, rfl, k20, sb20⟩ ?_ ?_
              · rintro l σ H21 hl ⟨v5, v11, rfl, k21, sb21⟩
                have hi3 : i < 3 := hi
                refine ⟨_, rfl, _, rfl, p, _, xt, rfl, sb21.d.p, by omega, hB, fun y H22 hy kb22 hp22 => gN ?_⟩
                have sb22 := sb21.but kb22 hp22
                refine ⟨_, rfl, _, rfl, wy, y, rfl, hy, sb22.t, fun LB H23 e23 T23 hB23 => ⟨_, rfl, _, rfl, wy, y, rfl, hy, fun LC H24 s24 hC => ?_⟩⟩
                refine ⟨_, _, rfl, (ans_same hy (hB23.same s24) hC).le (by omega), fun H25 s25 => ⟨true, rfl, iteF ?_⟩⟩
                have s2325 := s24.trans s25
                exact ⟨_, _, rfl, ((k21.trans (.but kb22)).trans (.ext e23)).trans (.ext (extn_same s2325)), ((sb22.ext e23 T23).same s2325).le (by omega)⟩
              · rintro σ H21 ⟨v5, v11, rfl, k21, sb21⟩
                exact ⟨_, _, _, _, _, _, _, rfl, k21, sb21.le (by omega)⟩
            · rintro σ H18 ⟨v5, v8, v9, v10, v11, v12, v13, rfl, k18, sb18⟩
              have rb18 := rb17.kn k18 (k18.tk sb17.d.p)
              have eN : ∀ {x : Str} {sp : Str} {us : List Ty}, ofTexts sp x = us.map Ty.d → ¬ (ofTexts sp x).any isNoD = true := fun e h => by rw [e, any_noD] at h; cases h
              have rd1 : RdOk t0.text := B1.rd (by decide) (by decide)
              have rd2 : RdOk (Txt.join (", " : Str) ((t0 :: tr).map Ty.text)) := B2.rd (by decide) (by decide)
              have one : ofTexts ("\n" : Str) t0.text = [t0].map Ty.d := by
                have q := join_line (ts := [t0]) (by simp) fun t ht => by rw [List.mem_singleton.mp ht]; exact wk17 t0 List.mem_cons_self
                rw [TL.join_eq] at q
                exact q
              have rdo : RdOk ("(over over over)" : Str) := ⟨by decide +kernel, by decide +kernel, by decide +kernel⟩
              have oto : ofText ("(over over over)" : Str) = ovK.d := by rw [ovK_text, ofText_text _ ovK_wok]
              have nto : isNoD (ofText ("(over over over)" : Str)) = false := by rw [oto]; exact noD_d _
              refine ⟨⟨_, rfl⟩, _, rfl, _, _, _, rfl, rfl, .inl (SqL.of rb18.x), jc, _, rfl, rd2, sb18.t, ⟨fun L us1 H19 e19 T19 eL hU1 _ fr => gN ?_, fun ha => absurd ha (eN jco)⟩⟩
              have lu1 : us1.length ≤ 5 := by rw [hU1.length, jco, List.length_map]; exact l5
              refine ⟨_, rfl, .inl ⟨rfl, _, SqL.of eL⟩, L, _, _, rfl, rfl, eL, by rw [sizeLine_eq]; omega, ?_⟩
              have e20 : ExtN H18 (upd H19 L (.lst (us1 ++ [.str "more"]))) := extn_over e19 fr
              have T20 : Tabs Tb (upd H19 L (.lst (us1 ++ [.str "more"]))) := tabs_lst T19 eL
              generalize upd H19 L (.lst (us1 ++ [.str "more"])) = H20 at e20 T20 ⊢
              have rb20 := rb18.ext e20
              have sb20 := sb18.ext e20 T20
              refine ⟨⟨_, rfl⟩, _, rfl, _, _, _, rfl, rfl, .inl (SqL.of rb20.x), jc, _, rfl, rd2, T20, ⟨fun L1 us1 H21 e21 T21 eL1 hU1 _ _ => ?_, fun ha => absurd ha (eN jco)⟩⟩
              have rb21 := rb20.ext e21
              refine ⟨_, rfl, X, _, _, _, rfl, rfl, SqL.of rb21.x, atI_nat (j := 0) rfl, _, rfl, rd1, T21, ⟨fun L2 us2 H22 e22 T22 eL2 hU2 _ _ => ?_, fun ha => absurd ha (eN one)⟩⟩
              have rb22 := rb21.ext e22
              refine ⟨_, rfl, rdo, T22, ⟨fun v3 H23 e23 T23 hv3 _ => ⟨sz3, fun A1 nA1 => ?_⟩, fun ha => by rw [nto] at ha; cases ha⟩⟩
              have sA1 := same_upd (o := .lst [.ref L1, .ref L2, v3]) nA1
              have eA1 := upd_same (H := H23) (a := A1) (o := .lst [.ref L1, .ref L2, v3])
              have rb23 := rb22.ext (e23.trans (extn_same sA1))
              generalize upd H23 A1 (.lst [.ref L1, .ref L2, v3]) = H24 at sA1 eA1 rb23 ⊢
              refine ⟨_, rfl, _, rfl, _, rfl, D, _, rfl, SqL.of rb23.r, fun S nS => ?_⟩
              rw [cutV_one]
              have sS := same_upd (o := .lst [u0]) nS
              have eS := upd_same (H := H24) (a := S) (o := .lst [u0])
              generalize upd H24 S (.lst [u0]) = H25 at sS eS ⊢
              refine ⟨sz3, fun tq nq => ?_⟩
              have sq := same_upd (o := .tup [.str "over", .str "over", .str "over"]) nq
              have etq := upd_same (H := H25) (a := tq) (o := .tup [.str "over", .str "over", .str "over"])
              generalize upd H25 tq (.tup [.str "over", .str "over", .str "over"]) = H26 at sq etq ⊢
              refine ⟨sz3, fun A2 nA2 => ⟨_, _, rfl, ?_, fun H27 s27 => ⟨true, rfl, iteF ?_⟩⟩⟩
              · have s2 := same_upd (o := .lst [.ref D, .ref S, .ref tq]) nA2
                have s23 := sA1.trans (sS.trans (sq.trans s2))
                have s24 := sS.trans (sq.trans s2)
                have rbF := rb23.ext (extn_same s24)
                have dsF := tys_ds rbF.u
                have dU1 := hU1.mono (extn_tk (e22.trans (e23.trans (extn_same s23))))
                have dU2 := hU2.mono (extn_tk (e23.trans (extn_same s23)))
                have eL1' := extn_lst (e22.trans (e23.trans (extn_same s23))) eL1
                have eL2' := extn_lst (e23.trans (extn_same s23)) eL2
                have dv3 := hv3.mono (TK.of_same s23)
                rw [jco] at dU1
                rw [one] at dU2
                rw [oto] at dv3
                have bdS : ∀ d ∈ (t0 :: tr).map Ty.d, d.dep ≤ 50 ∧ d.size ≤ 20000 := fun d hd => by
                  obtain ⟨t, ht, rfl⟩ := List.mem_map.mp hd
                  obtain ⟨c1, c2, _⟩ := bd t ht
                  exact ⟨by omega, by omega⟩
                have hu0F := tys_head rbF.u
                have hov : TyAt _ (.ref tq) ovK := .n (s2 _ _ etq) (.w ovK_wok.1) (.w ovK_wok.2)
                refine (SameDt.lst (k := 51) (s24 _ _ eA1) upd_same rfl (by show 3 ≤ _; omega) (three_same ?_ ?_ ?_)).le (by omega)
                · exact SameDt.lst (k := 50) eL1' rbF.r (by rw [dU1.length, dsF.length]) (by rw [dU1.length, List.length_map]; omega) (ds_same dU1 dsF bdS)
                · exact SameDt.lst (k := 50) eL2' ((sq.trans s2) _ _ eS) (by rw [dU2.length]; rfl) (by rw [dU2.length]; show 1 ≤ _; omega) (ds_same dU2 (.cons hu0F.d .nil) fun d hd => bdS d (by rw [List.mem_singleton.mp hd]; exact List.mem_cons_self))
                · exact (SameDt.d 40000 (by decide +kernel) (Nat.le_refl _) dv3 hov.d).le (by decide +kernel)
              have s2427 := (sS.trans (sq.trans (same_upd nA2))).trans s27
              exact ⟨_, _, _, _, _, _, _, _, _, _, rfl, ((((sb20.ext e21 T21).ext e22 T22).ext e23 T23).same (sA1.trans s2427)).le (by simp only [List.length_cons, List.length_nil]; omega)⟩
      · rintro σ H5 ⟨v4, v5, v6, v7, v8, v9, v10, v11, v12, v13, rfl, sb5⟩
        exact ⟨_, _, _, _, _, _, _, _, _, _, _, _, _, rfl, sb5.l, fun e => by cases e⟩
    · rintro σ H2 ⟨v1, v2, v3, v4, v5, v6, v7, v8, v9, v10, v11, v12, v13, rfl, eL, _⟩
      exact k H2
end
end V1

namespace V1
open PySem PySem.Spec PyProof.Rows L2 LamX KT K1
open PySem.W (Frag)
section
variable {K : Frag} {h : Heap} {mg : Str → Option Value}
theorem err_mk {x nm q qI : Str} {C N fI T : Addr} {bs bm : List Value} {sn : List Str} {sub : List Value} {ab : Bool} {col : Option Bool} {dd : Option Addr} {m0 m1 m2 m3 m5 : Option Value} {od an oT : Option Addr} {sl sT : Array (Option Value)} {oc kV dc pm cd ct cT : Value} {p1 p2 p3 q1 q2 q3 q4 : Pos} {n : Nat}
    (X : K.In h) (G : h.Ns mainGlobals mg) (aC : PySem.W.nsIn K mainGlobals x = some (some (.ref C))) (xL : K.lookup C = some (excClassObj nm q C N bs bm true sn sub ab col dd m0 m1 m2 m3 m5 "ValueError.__new__"))
    (iC : PySem.W.findIn K (.ref C) "__init__" = some (some (.ref fI))) (lI : K.lookup fI = some ⟨oc, od, .func (PySem.W.fnOf "__init__" qI (eA p1 p2 p3) (eB q1 q2 q3 q4) eS (.ref T) kV dc pm an cd ct), sl⟩) (cI : PySem.W.codeIn K cd qI = true)
    (lT : K.lookup T = some ⟨cT, oT, .seq #[.none] n, sT⟩) (hbm : PySem.HandSPX.refsVE bm = true)
    (sa : PySem.W.findIn K (.ref C) "__setattr__" = some (some (.builtin "object.__setattr__"))) (tC : PySem.W.typeIn K (.ref C) = some (.type "type")) (kC : PySem.W.keepIn K (.ref C) = true) (tI : PySem.W.typeIn K (.ref fI) = some (.type "function"))
    (no : PySem.W.findIn K (.ref C) "value" = some none) (xf : XfC K C) : ErrC K mg x C fI where
  gC := PySem.W.mg_of X G aC
  ox := ⟨⟨nm, q, N, bs, bm, sn, sub, ab, col, dd, m0, m1, m2, m3, m5, xL, hbm⟩, sa, xf.exC, tC, kC⟩
  ga := xf.ga
  gg := xf.gg
  hd := xf.hdC
  noN := no
  iC := iC
  tI := tI
  fn := ⟨oc, od, kV, dc, pm, an, cd, ct, sl, p1, p2, p3, q1, q2, q3, q4, qI, T, _, n, lI, cI, lT, rfl⟩
theorem gtx_mk {t1 t2 : Tok} (X : K.In h) (G : h.Ns mainGlobals mg) (a : PySem.W.nsIn K mainGlobals "_BETWEEN" = some (some (.str (", " : Str) t1))) (b : PySem.W.nsIn K mainGlobals "_LINE_END" = some (some (.str ("\n" : Str) t2))) : Gtx mg := ⟨⟨t1, PySem.W.mg_of X G a⟩, ⟨t2, PySem.W.mg_of X G b⟩⟩
def excB (K : Frag) (C : Addr) : Bool := xfB K C && (decide (PySem.W.findIn K (.ref C) "__class__" = some (some (.builtin "object.__class__"))) && (decide (PySem.W.specialIn K (.builtin "object.__class__") "__get__" = some (some (.builtin "getset_descriptor.__get__"))) &&
  (decide (PySem.W.takesIn K (.builtin "object.__class__") = some true) && decide (PySem.W.mroIn K C (.type "object") = some true))))
theorem excB_ok {C : Addr} (e : excB K C = true) : XfC K C ∧ ExcC K C := by
  obtain ⟨h1, e⟩ := Bool.and_eq_true_iff.mp e
  obtain ⟨h2, e⟩ := Bool.and_eq_true_iff.mp e
  obtain ⟨h3, e⟩ := Bool.and_eq_true_iff.mp e
  obtain ⟨h4, h5⟩ := Bool.and_eq_true_iff.mp e
  have x := xfB_ok h1
  exact ⟨x, ⟨x.ga, x.gg, x.exC, x.hdC, of_decide_eq_true h2, of_decide_eq_true h3, of_decide_eq_true h4, of_decide_eq_true h5⟩⟩
end
end V1

namespace V1
open PySem PySem.Spec PyProof.Rows L2 NdefX LamX KT
open PySem.W (Frag)
section
variable {K : Frag} {h : Heap} {mg : Str → Option Value}
theorem top_mk {x : Str} {st : Stmt} {ps : List Str} {f : Addr} {od an : Option Addr} {sl : Array (Option Value)} {oc kV dc pm cd ct : Value} (X : K.In h) (G : h.Ns mainGlobals mg) (a : PySem.W.nsIn K mainGlobals x = some (some (.ref f)))
    (l : K.lookup f = some ⟨oc, od, .func (PySem.W.fnOf x x (L2.defArgs st) (L2.defBody st) (L2.defScope st) .none kV dc pm an cd ct), sl⟩) (c : PySem.W.codeIn K cd x = true) (k : PySem.W.keepIn K (.ref f) = true)
    (b : ∀ (kV doc pm : Value) (an : Option Addr) (cdv ct : Value) (us : List Value), us.length = ps.length → bindArgs (PySem.W.fnOf x x (L2.defArgs st) (L2.defBody st) (L2.defScope st) .none kV doc pm an cdv ct) ⟨us, []⟩ = pure (ps.zip us)) :
    Top K mg x st ps f (PySem.W.fnOf x x (L2.defArgs st) (L2.defBody st) (L2.defScope st) .none kV dc pm an cd ct) := by
  have F := L2.fun_mk (x := x) (qual := x) (st := st) l c k
  exact ⟨F, PySem.W.mg_of X G a, F.binds b⟩
theorem topC_mk {x : Str} {st : Stmt} {ps : List Str} {f c : Addr} {od an : Option Addr} {sl : Array (Option Value)} {oc kV dc pm ct : Value} (X : K.In h) (G : h.Ns mainGlobals mg) (a : PySem.W.nsIn K mainGlobals x = some (some (.ref f)))
    (l : K.lookup f = some ⟨oc, od, .func (PySem.W.fnOf x x (L2.defArgs st) (L2.defBody st) (L2.defScope st) .none kV dc pm an (.ref c) ct), sl⟩) (hc : PySem.W.codeIn K (.ref c) x = true) (k : PySem.W.keepIn K (.ref f) = true)
    (b : ∀ (kV doc pm : Value) (an : Option Addr) (cdv ct : Value) (us : List Value), us.length = ps.length → bindArgs (PySem.W.fnOf x x (L2.defArgs st) (L2.defBody st) (L2.defScope st) .none kV doc pm an cdv ct) ⟨us, []⟩ = pure (ps.zip us)) :
    TopC K mg x st ps f (PySem.W.fnOf x x (L2.defArgs st) (L2.defBody st) (L2.defScope st) .none kV dc pm an (.ref c) ct) c := ⟨top_mk X G a l hc k b, oc, od, kV, dc, pm, an, ct, sl, rfl, l, hc⟩
theorem gbl_mk {t : Tok} {a : Addr} {od : Option Addr} {sl : Array (Option Value)} {t1 t2 t3 : Tok} {n : Nat} (X : K.In h) (G : h.Ns mainGlobals mg) (l : PySem.W.nsIn K mainGlobals "_LETTERS" = some (some (.str abc t))) (s : PySem.W.nsIn K mainGlobals "_SIGNS" = some (some (.ref a)))
    (k : K.lookup a = some ⟨.type "tuple", od, .seq #[.str "over" t1, .str "then" t2, .str "under" t3] n, sl⟩) : Gbl K mg :=
  ⟨⟨t, PySem.W.mg_of X G l⟩, a, PySem.W.mg_of X G s, .inr ⟨_, _, _, k, rfl, rfl, by show 3 ≤ sizeLine; rw [sizeLine_eq]; omega, .cons ⟨_, rfl⟩ (.cons ⟨_, rfl⟩ (.cons ⟨_, rfl⟩ .nil))⟩⟩
theorem tb1_mk {base : Heap} {c P : Addr} {q : Str} {T : List (Addr × Str)} (b : TabB base mg c P) (m : (T.any fun p => p.1 == P && p.2 == q) = true) (u : (T.all fun p => p.1 != P || p.2 == q) = true) : Tb1 base mg T c P q := by
  refine ⟨b, ?_, fun p hp e => ?_⟩
  · obtain ⟨p, h1, h2⟩ := List.any_eq_true.mp m
    simp only [Bool.and_eq_true, beq_iff_eq] at h2
    obtain ⟨a, d⟩ := p
    obtain ⟨rfl, rfl⟩ := h2
    exact h1
  · have := List.all_eq_true.mp u p hp
    simp only [Bool.or_eq_true, bne_iff_ne, ne_eq, beq_iff_eq] at this
    exact this.resolve_left fun n => n e
theorem end_mk {l : PySem.W.OpenLaw} {w : World} {fa : Addr} {fd : FuncData} {C : List (Addr × Addr)} {T : List (Addr × Str)} (_T : Top K mg "law" sLaw pLaw fa fd) (hT : ∀ p ∈ C, h.get? p.2 = some (PySem.W.tabObj #[])) (nA : ∀ p ∈ C, K.lookup p.2 = none)
    (CA : ∀ p ∈ C, PySem.W.CodeHd h p.1 p.2) (hTC : ∀ p ∈ T, ∃ q ∈ C, q.2 = p.1) (hb : ∀ (s : Shared) (u : Value), BindsTo s fd ⟨[u], []⟩ [("script", u)])
    (F : ∀ base : Heap, (∀ p ∈ C, TabB base mg p.1 p.2) → FnOk l.prog w K mg base L2.CX0 64 fa fd ["script"] (spLaw31 K T)) : LawAtS l w K L2.CX0 64 63 "script" mg fa h := by
  refine ⟨fd, C, spLaw31 K T, hT, nA, CA, hb, fun H a ns _ _ hH hS => ⟨a, ns, rfl, hS, fun p hp => ?_, fun _ => rfl⟩, fun base _ _ TB => F base fun p hp => TB p hp⟩
  obtain ⟨q, hq, e⟩ := hTC p hp
  rw [← e]
  exact TabS.nil (hH q hq)
end
end V1


open PySem PySem.W PyProof.Rows
set_option maxRecDepth 100000 in
set_option maxHeartbeats 0 in
theorem PySem.Challenge.cw_phrasejoins_k31_whole_texts_holds : PySem.Challenge.rw_phrasejoins_k31_whole_texts.Holds := by
  w_on; o_law; k_head; (case hw => w_witness2)
  k_fill
  refine LamX.walk_ofTs (l := PySem.Challenge.rw_phrasejoins_k31_whole_texts) (n := 63) (k := 64) (x := "script") (CX := fun _ => L2.CX0) rfl (by decide) rfl ⟨rfl, by decide, by decide⟩ (fun w h Y => PySem.W.km_in_of Y) ?F (fun _ _ _ _ _ h => h)
  case F =>
    intro w mg fa h Y KX G hmg
    have hT8 := PySem.W.km_tabs_of Y

    have TNodesIn := V1.top_mk (x := "nodes_in") (st := V1.sNodesIn) (ps := V1.pNodesIn) KX G (by k_is) (by k_is) (by k_is) (by k_is) (fun _ _ _ _ _ _ us hl => match us, hl with | [_, _], _ => rfl)
    have TFromInside := V1.topC_mk (x := "from_inside") (st := V1.sFromInside) (ps := V1.pFromInside) KX G (by k_is) (by k_is) (by k_is) (by k_is) (fun _ _ _ _ _ _ us hl => match us, hl with | [_, _, _], _ => rfl)
    have TIsWord := V1.top_mk (x := "is_word") (st := V1.sIsWord) (ps := V1.pIsWord) KX G (by k_is) (by k_is) (by k_is) (by k_is) (fun _ _ _ _ _ _ us hl => match us, hl with | [_], _ => rfl)
    have TIsSigned := V1.top_mk (x := "_is_signed") (st := V1.sIsSigned) (ps := V1.pIsSigned) KX G (by k_is) (by k_is) (by k_is) (by k_is) (fun _ _ _ _ _ _ us hl => match us, hl with | [_], _ => rfl)
    have TIsKind := V1.top_mk (x := "is_kind") (st := V1.sIsKind) (ps := V1.pIsKind) KX G (by k_is) (by k_is) (by k_is) (by k_is) (fun _ _ _ _ _ _ us hl => match us, hl with | [_], _ => rfl)
    have TCheckKind := V1.top_mk (x := "check_kind") (st := V1.sCheckKind) (ps := V1.pCheckKind) KX G (by k_is) (by k_is) (by k_is) (by k_is) (fun _ _ _ _ _ _ us hl => match us, hl with | [_], _ => rfl)
    have TPartsOf := V1.top_mk (x := "_parts_of") (st := V1.sPartsOf) (ps := V1.pPartsOf) KX G (by k_is) (by k_is) (by k_is) (by k_is) (fun _ _ _ _ _ _ us hl => match us, hl with | [_], _ => rfl)
    have TFolded := V1.topC_mk (x := "folded") (st := V1.sFolded) (ps := V1.pFolded) KX G (by k_is) (by k_is) (by k_is) (by k_is) (fun _ _ _ _ _ _ us hl => match us, hl with | [_, _, _], _ => rfl)
    have TAreKinds := V1.top_mk (x := "are_kinds") (st := V1.sAreKinds) (ps := V1.pAreKinds) KX G (by k_is) (by k_is) (by k_is) (by k_is) (fun _ _ _ _ _ _ us hl => match us, hl with | [_], _ => rfl)
    have TIsRow := V1.top_mk (x := "is_row") (st := V1.sIsRow) (ps := V1.pIsRow) KX G (by k_is) (by k_is) (by k_is) (by k_is) (fun _ _ _ _ _ _ us hl => match us, hl with | [_], _ => rfl)
    have TCheckRow := V1.top_mk (x := "check_row") (st := V1.sCheckRow) (ps := V1.pCheckRow) KX G (by k_is) (by k_is) (by k_is) (by k_is) (fun _ _ _ _ _ _ us hl => match us, hl with | [_], _ => rfl)
    have TTextOf := V1.topC_mk (x := "_text_of") (st := V1.sTextOf) (ps := V1.pTextOf) KX G (by k_is) (by k_is) (by k_is) (by k_is) (fun _ _ _ _ _ _ us hl => match us, hl with | [_], _ => rfl)
    have TKindText := V1.top_mk (x := "kind_text") (st := V1.sKindText) (ps := V1.pKindText) KX G (by k_is) (by k_is) (by k_is) (by k_is) (fun _ _ _ _ _ _ us hl => match us, hl with | [_], _ => rfl)
    have TPutTogether := V1.top_mk (x := "_put_together") (st := V1.sPutTogether) (ps := V1.pPutTogether) KX G (by k_is) (by k_is) (by k_is) (by k_is) (fun _ _ _ _ _ _ us hl => match us, hl with | [_], _ => rfl)
    have TKindTold := V1.top_mk (x := "kind_told") (st := V1.sKindTold) (ps := V1.pKindTold) KX G (by k_is) (by k_is) (by k_is) (by k_is) (fun _ _ _ _ _ _ us hl => match us, hl with | [_], _ => rfl)
    have TKindsTold := V1.top_mk (x := "_kinds_told") (st := V1.sKindsTold) (ps := V1.pKindsTold) KX G (by k_is) (by k_is) (by k_is) (by k_is) (fun _ _ _ _ _ _ us hl => match us, hl with | [_, _], _ => rfl)
    have TReadKind := V1.top_mk (x := "read_kind") (st := V1.sReadKind) (ps := V1.pReadKind) KX G (by k_is) (by k_is) (by k_is) (by k_is) (fun _ _ _ _ _ _ us hl => match us, hl with | [_], _ => rfl)
    have TRowText := V1.top_mk (x := "row_text") (st := V1.sRowText) (ps := V1.pRowText) KX G (by k_is) (by k_is) (by k_is) (by k_is) (fun _ _ _ _ _ _ us hl => match us, hl with | [_], _ => rfl)
    have TReadRow := V1.top_mk (x := "read_row") (st := V1.sReadRow) (ps := V1.pReadRow) KX G (by k_is) (by k_is) (by k_is) (by k_is) (fun _ _ _ _ _ _ us hl => match us, hl with | [_], _ => rfl)
    have TKindsText := V1.top_mk (x := "kinds_text") (st := V1.sKindsText) (ps := V1.pKindsText) KX G (by k_is) (by k_is) (by k_is) (by k_is) (fun _ _ _ _ _ _ us hl => match us, hl with | [_], _ => rfl)
    have TReadKinds := V1.top_mk (x := "read_kinds") (st := V1.sReadKinds) (ps := V1.pReadKinds) KX G (by k_is) (by k_is) (by k_is) (by k_is) (fun _ _ _ _ _ _ us hl => match us, hl with | [_], _ => rfl)
    have TLPurse := V1.top_mk (x := "_law_purse") (st := V1.sLPurse) (ps := V1.pLPurse) KX G (by k_is) (by k_is) (by k_is) (by k_is) (fun _ _ _ _ _ _ us hl => match us, hl with | [_, _], _ => rfl)
    have TLMixed := V1.top_mk (x := "_law_mixed") (st := V1.sLMixed) (ps := V1.pLMixed) KX G (by k_is) (by k_is) (by k_is) (by k_is) (fun _ _ _ _ _ _ us hl => match us, hl with | [_, _, _], _ => rfl)
    have TLDraw := V1.top_mk (x := "_law_draw") (st := V1.sLDraw) (ps := V1.pLDraw) KX G (by k_is) (by k_is) (by k_is) (by k_is) (fun _ _ _ _ _ _ us hl => match us, hl with | [_, _], _ => rfl)
    have TLPurses := V1.top_mk (x := "_law_purses") (st := V1.sLPurses) (ps := V1.pLPurses) KX G (by k_is) (by k_is) (by k_is) (by k_is) (fun _ _ _ _ _ _ us hl => match us, hl with | [_, _], _ => rfl)
    have TLOneOf := V1.top_mk (x := "_law_one_of") (st := V1.sLOneOf) (ps := V1.pLOneOf) KX G (by k_is) (by k_is) (by k_is) (by k_is) (fun _ _ _ _ _ _ us hl => match us, hl with | [_, _], _ => rfl)
    have TLExact := V1.top_mk (x := "_law_exact") (st := V1.sLExact) (ps := V1.pLExact) KX G (by k_is) (by k_is) (by k_is) (by k_is) (fun _ _ _ _ _ _ us hl => match us, hl with | [_, _], _ => rfl)
    have TLWord := V1.top_mk (x := "_law_word") (st := V1.sLWord) (ps := V1.pLWord) KX G (by k_is) (by k_is) (by k_is) (by k_is) (fun _ _ _ _ _ _ us hl => match us, hl with | [_], _ => rfl)
    have TLWords := V1.top_mk (x := "_law_words") (st := V1.sLWords) (ps := V1.pLWords) KX G (by k_is) (by k_is) (by k_is) (by k_is) (fun _ _ _ _ _ _ us hl => match us, hl with | [_, _], _ => rfl)
    have TLPlains := V1.top_mk (x := "_law_plains") (st := V1.sLPlains) (ps := V1.pLPlains) KX G (by k_is) (by k_is) (by k_is) (by k_is) (fun _ _ _ _ _ _ us hl => match us, hl with | [_, _], _ => rfl)
    have TLKind := V1.top_mk (x := "_law_kind") (st := V1.sLKind) (ps := V1.pLKind) KX G (by k_is) (by k_is) (by k_is) (by k_is) (fun _ _ _ _ _ _ us hl => match us, hl with | [_, _, _], _ => rfl)
    have TLIsKind := V1.top_mk (x := "_law_is_kind") (st := V1.sLIsKind) (ps := V1.pLIsKind) KX G (by k_is) (by k_is) (by k_is) (by k_is) (fun _ _ _ _ _ _ us hl => match us, hl with | [_], _ => rfl)
    have TLText := V1.top_mk (x := "_law_text") (st := V1.sLText) (ps := V1.pLText) KX G (by k_is) (by k_is) (by k_is) (by k_is) (fun _ _ _ _ _ _ us hl => match us, hl with | [_], _ => rfl)
    have TLPieces := V1.top_mk (x := "_law_pieces") (st := V1.sLPieces) (ps := V1.pLPieces) KX G (by k_is) (by k_is) (by k_is) (by k_is) (fun _ _ _ _ _ _ us hl => match us, hl with | [_], _ => rfl)
    have TLKindIn := V1.top_mk (x := "_law_kind_in") (st := V1.sLKindIn) (ps := V1.pLKindIn) KX G (by k_is) (by k_is) (by k_is) (by k_is) (fun _ _ _ _ _ _ us hl => match us, hl with | [_], _ => rfl)
    have TLRead := V1.top_mk (x := "_law_read") (st := V1.sLRead) (ps := V1.pLRead) KX G (by k_is) (by k_is) (by k_is) (by k_is) (fun _ _ _ _ _ _ us hl => match us, hl with | [_, _], _ => rfl)
    have TLDue := V1.top_mk (x := "_law_due") (st := V1.sLDue) (ps := V1.pLDue) KX G (by k_is) (by k_is) (by k_is) (by k_is) (fun _ _ _ _ _ _ us hl => match us, hl with | [_, _], _ => rfl)
    have TLBent := V1.top_mk (x := "_law_bent") (st := V1.sLBent) (ps := V1.pLBent) KX G (by k_is) (by k_is) (by k_is) (by k_is) (fun _ _ _ _ _ _ us hl => match us, hl with | [_, _], _ => rfl)
    have TLaw := V1.top_mk (x := "law") (st := V1.sLaw) (ps := V1.pLaw) KX G (by k_is) (by k_is) (by k_is) (by k_is) (fun _ _ _ _ _ _ us hl => match us, hl with | [_], _ => rfl)
    have E := hmg.symm.trans TLaw.g
    cases E
    have B : V1.Blt mg := ⟨PySem.W.mg_none_of KX G (by k_is), PySem.W.mg_none_of KX G (by k_is), PySem.W.mg_none_of KX G (by k_is), PySem.W.mg_none_of KX G (by k_is), PySem.W.mg_none_of KX G (by k_is), PySem.W.mg_none_of KX G (by k_is), PySem.W.mg_none_of KX G (by k_is), PySem.W.mg_none_of KX G (by k_is), PySem.W.mg_none_of KX G (by k_is), PySem.W.mg_none_of KX G (by k_is), PySem.W.mg_none_of KX G (by k_is), PySem.W.mg_none_of KX G (by k_is), PySem.W.mg_none_of KX G (by k_is), PySem.W.mg_none_of KX G (by k_is), PySem.W.mg_none_of KX G (by k_is), PySem.W.mg_none_of KX G (by k_is), PySem.W.mg_none_of KX G (by k_is)⟩
    have GG : V1.Gbl _ mg := V1.gbl_mk KX G (by k_is) (by k_is) (by k_is)
    have GX : V1.Gtx mg := V1.gtx_mk KX G (by k_is) (by k_is)
    have cE := V1.err_mk (x := "InvalidPaper") KX G (by k_is) (by k_is) (by k_is) (by k_is) (by k_is) (by k_is) (by rfl) (by k_is) (by k_is) (by k_is) (by k_is) (by k_is) (V1.excB_ok (by kernel_rfl)).1
    refine V1.end_mk (C := [(141, 137), (167, 163)]) (T := [(137, "folded.<locals>.at_part"), (163, "_text_of.<locals>.<lambda>")]) TLaw
      (fun p hp => hT8 p.2 (by simp only [List.mem_cons, List.not_mem_nil, or_false] at hp ⊢; rcases hp with rfl | rfl <;> simp))
      (fun p hp => by simp only [List.mem_cons, List.not_mem_nil, or_false] at hp; rcases hp with rfl | rfl <;> kernel_rfl)
      (fun p hp => by simp only [List.mem_cons, List.not_mem_nil, or_false] at hp; rcases hp with rfl | rfl <;> exact PySem.W.codeHd_of_K KX (by kernel_rfl))
      (fun p hp => by
        simp only [List.mem_cons, List.not_mem_nil, or_false] at hp
        rcases hp with rfl | rfl
        · exact ⟨(141, 137), by simp, rfl⟩
        · exact ⟨(167, 163), by simp, rfl⟩) (fun s u => .of_eq rfl) (fun base TB => ?_)
    have tF : V1.Tb1 base mg _ 141 137 "folded.<locals>.at_part" := V1.tb1_mk (T := [(137, "folded.<locals>.at_part"), (163, "_text_of.<locals>.<lambda>")]) (TB (141, 137) (by simp)) (by decide +kernel) (by decide +kernel)
    have tT : V1.Tb1 base mg _ 167 163 "_text_of.<locals>.<lambda>" := V1.tb1_mk (T := [(137, "folded.<locals>.at_part"), (163, "_text_of.<locals>.<lambda>")]) (TB (167, 163) (by simp)) (by decide +kernel) (by decide +kernel)
    have gIsKind := V1.ok_isKindD (P := PySem.Challenge.rw_phrasejoins_k31_whole_texts.prog) (w := w) (base := base) TIsKind TIsSigned TIsWord B GG
    have gCK := V1.ok_checkKindT (P := PySem.Challenge.rw_phrasejoins_k31_whole_texts.prog) (w := w) (base := base) TCheckKind TIsKind gIsKind
    have gAre := V1.ok_areKinds (P := PySem.Challenge.rw_phrasejoins_k31_whole_texts.prog) (w := w) (base := base) TAreKinds TIsKind gIsKind B
    have gIsRow := V1.ok_isRow (P := PySem.Challenge.rw_phrasejoins_k31_whole_texts.prog) (w := w) (base := base) TIsRow TAreKinds gAre B
    have gCR := V1.ok_checkRow (P := PySem.Challenge.rw_phrasejoins_k31_whole_texts.prog) (w := w) (base := base) TCheckRow TIsRow gIsRow
    have UF := V1.TFs.mk TFolded TFromInside TNodesIn TPartsOf tF
    have gTx := V1.ok_textOf (P := PySem.Challenge.rw_phrasejoins_k31_whole_texts.prog) (w := w) (base := base) TTextOf tT UF B
    have gKT := V1.ok_kindText (P := PySem.Challenge.rw_phrasejoins_k31_whole_texts.prog) (w := w) (base := base) TKindText TCheckKind gCK TTextOf.T gTx
    have gPut := V1.ok_putTogether (P := PySem.Challenge.rw_phrasejoins_k31_whole_texts.prog) (w := w) (base := base) TPutTogether B
    have gTold := V1.ok_kindTold (P := PySem.Challenge.rw_phrasejoins_k31_whole_texts.prog) (w := w) (base := base) TKindTold TPutTogether gPut TIsKind gIsKind TTextOf.T gTx
    have gRT := V1.ok_rowText (P := PySem.Challenge.rw_phrasejoins_k31_whole_texts.prog) (w := w) (base := base) TRowText TCheckRow gCR TTextOf.T gTx GX
    have gKsT := V1.ok_kindsText (P := PySem.Challenge.rw_phrasejoins_k31_whole_texts.prog) (w := w) (base := base) TKindsText TCheckRow gCR TTextOf.T gTx GX
    have gKsTold := V1.ok_kindsTold (P := PySem.Challenge.rw_phrasejoins_k31_whole_texts.prog) (w := w) (base := base) TKindsTold TKindTold gTold B cE
    have gRK := V1.ok_readKind (P := PySem.Challenge.rw_phrasejoins_k31_whole_texts.prog) (w := w) (base := base) TReadKind TKindTold gTold B cE
    have gRR := V1.ok_readRow (P := PySem.Challenge.rw_phrasejoins_k31_whole_texts.prog) (w := w) (base := base) TReadRow TKindsTold gKsTold GX
    have gRKs := V1.ok_readKinds (P := PySem.Challenge.rw_phrasejoins_k31_whole_texts.prog) (w := w) (base := base) TReadKinds TKindsTold gKsTold GX
    have UD : V1.TDs _ mg _ _ _ _ _ _ _ _ _ _ := ⟨TLDraw, TLMixed, TLWord, TLWords, TLOneOf, B⟩
    have lDraw := V1.ok_draw (P := PySem.Challenge.rw_phrasejoins_k31_whole_texts.prog) (w := w) (base := base) TLDraw TLMixed B
    have lPurses := V1.ok_purses (P := PySem.Challenge.rw_phrasejoins_k31_whole_texts.prog) (w := w) (base := base) TLPurses TLPurse B
    have lPlains := V1.ok_plains (P := PySem.Challenge.rw_phrasejoins_k31_whole_texts.prog) (w := w) (base := base) TLPlains UD
    have lKind := V1.ok_kind (P := PySem.Challenge.rw_phrasejoins_k31_whole_texts.prog) (w := w) (base := base) TLKind UD 7 (by decide)
    have lText := V1.ok_ltext (P := PySem.Challenge.rw_phrasejoins_k31_whole_texts.prog) (w := w) (base := base) TLText B 8
    have lExact := V1.ok_exact (P := PySem.Challenge.rw_phrasejoins_k31_whole_texts.prog) (w := w) (base := base) TLExact B 60 (by decide)
    have lRead := V1.ok_lread (P := PySem.Challenge.rw_phrasejoins_k31_whole_texts.prog) (w := w) (base := base) TLRead TReadKind gRK TReadRow gRR TReadKinds gRKs cE (V1.excB_ok (by kernel_rfl)).1 (by kernel_rfl)
    have lIn := V1.ok_lkindIn (P := PySem.Challenge.rw_phrasejoins_k31_whole_texts.prog) (w := w) (base := base) TLKindIn TLPieces TLIsKind B
    have lDue := V1.ok_ldue (P := PySem.Challenge.rw_phrasejoins_k31_whole_texts.prog) (w := w) (base := base) TLDue TLKindIn lIn B
    have lBent := V1.ok_lbent (P := PySem.Challenge.rw_phrasejoins_k31_whole_texts.prog) (w := w) (base := base) TLBent TLDraw TLMixed TLOneOf B
    exact V1.ok_law31 TLaw ⟨TLPurses, TLPlains, TLDraw, TLKind, TLText, TLExact, TKindText, TRowText, TKindsText, TLRead, TLDue, TLBent, TReadRow, TReadKinds, TReadKind, lPurses, lPlains, lDraw, lKind, lText, lExact, gKT, gRT, gKsT, lRead, lDue, lBent, gRR, gRKs, gRK⟩ B
