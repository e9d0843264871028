import PyProof.Rows.All
import Wide.All
import OpenK.AllK
import Wide.FinOn
import HandS.ForMost
import HandS.WideBits
import HandS.Defaults
import HandS.ExcInit
import HandS.IsInst
import HandS.Style
import HandS.Strs
import HandS.Zip
import HandS.NestedK
import HandS.EndTab
import HandS.CallLocal
import HandS.Walk
import PyProof.ListStr
import HandS.Conv
import HandS.Set
import HandS.TupSets
import HandS.SetFor
import HandS.SetTxt0
import PyProof.Rows.SortShellAny
import HandS.Deep
import PyProof.P3In
import PyProof.Rows.StrSplitCount
import PyProof.StrLawsChain
import HandS.FStr
import HandS.Replace
import HandS.ReplaceLit
import HandS.ReplaceDef
import HandS.Text
import HandS.ExcIs
import PyProof.ReprRoads
import HandS.ExcField
import KE.KExcIs
import HandS.ExcValue
import HandS.ExcCtx
import HandS.Hot
import HandS.TryMany
import PyProof.Rows.TupIter
import HandS.WordsExc
import PyProof.EqKinds
import HandS.Small
import PyProof.StrBlock2
import PySem.Challenge.RW_phrasejoins_k30_texts_refused_and_by_nam
set_option Elab.async false
set_option linter.all false
set_option maxRecDepth 100000
set_option maxHeartbeats 8000000
/-! Rules of our own: a list extended by a tuple; the end of a list cut off. Types as data. -/
namespace KT
open PySem PySem.Spec PyProof.Rows L2
open PySem.Sem (wp)
open MeetsSeq
/-! ### xs.extend(t), t a tuple -/
theorem list_extend_tup (l : Addr) (items : Array Value) (n : Nat) (b : Addr) (dd : Option Addr) (sl : Array (Option Value)) (items2 : Array Value) (n2 : Nat) (hs0 : ¬(!items.isEmpty && Builtin.List.listTooLong (items.size + items2.size)) = true) (hs1 : items.size ≤ sizeLine) (hs2 : items.size + items2.size ≤ sizeLine + 1) :
    Meets (Builtin.«list.extend» ⟨[.ref l, .ref b], []⟩) (fun _ R s => s.heap.get? l = some { cls := .type "list", dict := none, data := .seq items n, slots := #[] } ∧ s.heap.get? b = some { cls := .type "tuple", dict := dd, data := .seq items2 n2, slots := sl } ∧ R (.ok (.ret Value.none)) { s with heap := s.heap.update l (Obj.mapSeq fun x => x ++ items2), toks := s.toks }) :=
  .of_wp fun prog w A R s h => by
    obtain ⟨hp, g, d, tk, os⟩ := s; obtain ⟨hl, hb, h⟩ := h
    have f1 := AutoSeq1.idx_int; have f2 := AutoSeq1.sub_tuple_tuple; have f3 := AutoSeq1.sub_list_list; have f4 := AutoSeq1.sub_tuple_list; have f5 := AutoSeq1.sub_list_tuple
    have hz' : (items ++ items2).size ≤ sizeLine + 1 := by rw [Array.size_append]; exact hs2
    wp_walk using (wpAny_updateSeq hl rfl (hz := hs1) (_hz' := hz')), wpAny_loadPart' hl, wpAny_loadPart' hb; exact ⟨_, rfl, h⟩
section
variable {X : Cx}
def rExtT (K : PySem.W.Frag) : V → List V → Hp → VK → Prop := fun x vs H Q => ∃ l b xs zs, x = .ref l ∧ vs = [.ref b] ∧ H l = some (.lst xs) ∧ SqT K H b zs ∧ xs.length + zs.length ≤ sizeLine ∧ Q .non (upd H l (.lst (xs ++ zs)))
theorem mt_extT : MtM X "list.extend" (rExtT X.K) := by
  intro pins s σ H x vs v us Q I rx rv h
  obtain ⟨l, b, xs, zs, rfl, rfl, hH, hB, hz, q⟩ := h
  cases rx
  obtain ⟨u, rfl, ru⟩ := rv.one
  cases ru
  obtain ⟨z, its, n, r, hl, e⟩ := I.lstM hH
  obtain ⟨its2, r2, ⟨o, ho, hc, n2, hd⟩, hz2⟩ := I.tuple hB
  obtain ⟨oc, od, dt, sl⟩ := o
  simp only at hc hd
  subst hc hd
  have hl2 := r2.length
  have hsz : its.toArray.size + its2.toArray.size ≤ sizeLine := by rw [List.size_toArray, List.size_toArray]; omega
  have hlong : ¬ (!its.toArray.isEmpty && Builtin.List.listTooLong (its.toArray.size + its2.toArray.size)) = true := by
    rw [notLongL hsz, Bool.and_false]
    exact Bool.false_ne_true
  refine call_meets F.slot_list_extend ⟨_, e, rfl⟩ F.entry_list_extend (F.args_list_extend_2 _ _)
    (list_extend_tup l its.toArray n b od sl its2.toArray n2 hlong (by rw [List.size_toArray]; omega) (by omega)) ⟨e, ho, ?_⟩
  refine ⟨.non, _, I.lset (its' := its ++ its2) hH e (by simp) (r.append r2) ?_, rfl, q⟩
  rw [List.length_append]
  omega
end
/-! ### del xs[a:] -/
theorem drop_tail (its : List Value) (a : Nat) (h : a ≤ its.length) :
    (its.toArray.toList.zipIdx.filterMap fun (p : Value × Nat) => if (decide ((a : Int) ≤ (p.2 : Int)) && decide ((p.2 : Int) < (its.toArray.size : Int)) && ((p.2 : Int) - a) % 1 == 0) = true then none else some p.1).toArray = (its.take a).toArray := by
  congr 1
  rw [List.toList_toArray, List.size_toArray]
  have key : ∀ (l : List Value) (k : Nat), k + l.length ≤ its.length → (l.zipIdx k).filterMap (fun (p : Value × Nat) => if (decide ((a : Int) ≤ (p.2 : Int)) && decide ((p.2 : Int) < (its.length : Int)) && ((p.2 : Int) - a) % 1 == 0) = true then none else some p.1) = l.take (a - k) := by
    intro l
    induction l with
    | nil => intro k _; simp
    | cons x r ih =>
      intro k hk
      rw [List.length_cons] at hk
      rw [List.zipIdx_cons, List.filterMap_cons, ih (k + 1) (by omega)]
      have h1 : ((k : Int) - a) % 1 = 0 := by omega
      have h2 : ((k : Int) < (its.length : Int)) := by omega
      by_cases c : a ≤ k
      · have c' : ((a : Int) ≤ (k : Int)) := by omega
        have e0 : a - k = 0 := by omega
        have e1 : a - (k + 1) = 0 := by omega
        simp [h1, h2, c', e0, e1]
      · have c' : ¬ ((a : Int) ≤ (k : Int)) := by omega
        have e0 : a - k = (a - (k + 1)) + 1 := by omega
        simp [c', e0]
  have q := key its 0 (by omega)
  simpa using q
section
variable {prog : Program} {w : World} {A : Around} {E : Value → Shared → Prop} {s : Shared}
theorem bounds_end {a n : Nat} (h : a ≤ n) : sliceBounds (some (a : Int)) none none n = ((a : Int), (n : Int), 1) := by
  simp only [sliceBounds, Option.getD_none]
  have h1 : ¬ ((a : Int) < 0) := by omega
  simp only [h1, if_false, show (1 : Int) > 0 by decide, if_true]
  congr 1
  omega
theorem delItem_slice {l sl : Addr} {its : List Value} {n : Nat} {vl : Value} {a : Nat} {Q : Unit → Shared → Prop}
    (e : s.heap.get? l = some { cls := .type "list", data := .seq its.toArray n }) (hs : s.heap.IsSliceOf sl vl .none .none) (pl : IsPart vl (some (a : Int))) (ha : a ≤ its.length) (hsz : its.toArray.size ≤ sizeLine)
    (h : ∀ g : Array Value → Array Value, g its.toArray = (its.take a).toArray → Q () { s with heap := s.heap.update l (Obj.mapSeq g) }) :
    wpAny (model prog w) A (delItem (.ref l) (.ref sl)) Q E s := by
  have hl : s.heap.IsList l its.toArray := PySem.IsL.isList e
  obtain ⟨os, hos, hcs, hds⟩ := id hs
  have hTs : s.TypeIs (.ref sl) "slice" := ⟨os, hos, hcs⟩
  have hstep : ¬ ((rawPart none == rawInt 0) = true) := Bool.false_ne_true
  refine wpAny_delItem_slot hl.typeIs (by decide) F.slot_list_delitem (wpAny_call_entry F.slot_list_delitem hl.typeIs F.entry_list_delitem ?_ (F.args_list_delitem_2 _ _))
  show wpAny _ _ (Builtin.List.listSubscript? (.ref sl) >>= _) _ _ s
  refine wpAny_bind ?_
  unfold Builtin.List.listSubscript?
  refine wpAny_bind (wpAny_specialOf hTs slice_no_index ?_)
  simp only [Option.isNone_none, if_true]
  refine wpAny_pure ?_
  show wpAny _ _ (typeOf (.ref sl) >>= _) _ _ s
  refine wpAny_bind (wpAny_typeOf hTs ?_)
  first
    | rw [if_neg (by decide)]
    | refine PySem.W.KFB.if_not (by decide) ?_
  rw [listSliceParts_eq]
  refine wpAny_bind (wpAny_bind (wpAny_field hos hds (x := .none) rfl (wpAny_bind (wpAny_listPart .none ?_))))
  rw [if_neg hstep]
  refine wpAny_bind (wpAny_field hos hds (x := vl) rfl (wpAny_bind (wpAny_listPart pl ?_)))
  refine wpAny_bind (wpAny_field hos hds (x := .none) rfl (wpAny_bind (wpAny_listPart .none (wpAny_pure ?_))))
  refine wpAny_bind (m := Builtin.List.listItems (.ref l)) ?_
  unfold Builtin.List.listItems
  refine wpAny_bind (wpAny_seqItems e rfl (wpAny_pure ?_))
  refine wpAny_bind (wpAny_of_eq ((sliceIndices_raw (some (a : Int)) none none its.toArray.size (by simp)).trans (congrArg (pure : Int × Int × Int → Sem (Int × Int × Int)) (bounds_end (by rw [List.size_toArray]; exact ha)))) ?_)
  refine wpAny_bind (wpAny_rule ?_)
  refine wpAny_bind (wpAny_updateSeq (hz := hsz) (_hz' := ?hz) e rfl ?main)
  case hz =>
    refine Nat.le_trans (Nat.le_of_eq (congrArg Array.size (drop_tail its a ha))) ?_
    rw [List.size_toArray, List.length_take]
    rw [List.size_toArray] at hsz
    omega
  case main =>
    refine wpAny_bind (wpAny_letGo ?_)
    refine wpAny_pure ⟨.none, rfl, h _ ?_⟩
    exact drop_tail its a ha
end
section
variable {X : Cx}
/-- del xs[a:] of a list -/
def tDelTail (to : TE) (tl : TO) : TS := fun D σ H => to σ H fun x H1 => tl σ H1 fun y H2 => ∃ (l : Addr) (xs : List V) (a : Nat), x = .ref l ∧ y = some (a : Int) ∧ H2 l = some (.lst xs) ∧ a ≤ xs.length ∧ D.nx σ (upd H2 l (.lst (xs.take a)))
theorem ps_delTail {o : Expr} {lo : Option Expr} {to : TE} {tl : TO} {tpos p2 pos : Pos} (ho : PE X o to) (hl : PO X lo tl) : PS X (.Delete [.Subscript o (.Slice lo none none p2) tpos] pos) (tDelTail to tl) := by
  refine ⟨fun pins s σ H D I h => ?_⟩
  refine wpAny_Delete (wpAny_deleteEach_cons (wpAny_delete_Subscript (thn (ho.run pins s σ H _ I h) fun u s1 ⟨x, H1, I1, rx, q1⟩ => wpAny_Slice (thn (hl.run pins s1 σ H1 _ I1 q1) fun vl s2 ⟨l, H2, I2, pl, q2⟩ => ?_))))
  rw [evalPart_none]
  refine wpAny_pure ?_
  refine wpAny_pure ?_
  obtain ⟨ll, xs, a, ex, ey, hH, ha, q2⟩ := q2
  subst ex
  subst ey
  cases (show u = Value.ref ll from rx)
  have I4 : Inv X pins σ H2 { s2 with heap := s2.heap.push { cls := .type "slice", data := .fields #[vl, .none, .none] } } := I2.kept (t' := s2.toks) fun b ob q => Heap.get?_push_of_some _ q
  obtain ⟨z, its, n, r, hl', e⟩ := I4.lstM hH
  refine delItem_slice (a := a) e (Heap.IsSliceOf.new ..) pl (by omega) (by rw [List.size_toArray]; omega) fun g hg => wpAny_deleteEach_nil ⟨σ, _, I4.lset (its' := its.take a) (t' := s2.toks) hH e hg (r.take a) ?_, q2⟩
  rw [List.length_take]
  omega
end
end KT

namespace V2
open PySem PySem.Spec PyProof.Rows L2
open PySem.W (Frag)
/-! ### the text by places -/
def top (i : Nat) : Stmt := PySem.Challenge.pw_phrasejoins_k30_texts_refused_and_by_nam.main.body.getD i (.Pass ⟨0, 0, 0, 0⟩)
abbrev sNodesIn : Stmt := top 6
abbrev sFromInside : Stmt := top 7
abbrev sIsWord : Stmt := top 10
abbrev sIsSigned : Stmt := top 13
abbrev sIsKind : Stmt := top 14
abbrev sCheckKind : Stmt := top 15
abbrev sPartsOf : Stmt := top 16
abbrev sFolded : Stmt := top 17
abbrev sAreKinds : Stmt := top 19
abbrev sIsRow : Stmt := top 20
abbrev sCheckRow : Stmt := top 21
abbrev sTextOf : Stmt := top 25
abbrev sKindText : Stmt := top 26
abbrev sPutTogether : Stmt := top 27
abbrev sKindTold : Stmt := top 28
abbrev sKindsTold : Stmt := top 29
abbrev sReadKind : Stmt := top 30
abbrev sRowText : Stmt := top 31
abbrev sReadRow : Stmt := top 32
abbrev sKindsText : Stmt := top 33
abbrev sReadKinds : Stmt := top 34
abbrev sLPurse : Stmt := top 36
abbrev sLMixed : Stmt := top 37
abbrev sLDraw : Stmt := top 38
abbrev sLPurses : Stmt := top 39
abbrev sLOneOf : Stmt := top 40
abbrev sLSame : Stmt := top 41
abbrev sLExact : Stmt := top 42
abbrev sLWord : Stmt := top 43
abbrev sLWords : Stmt := top 44
abbrev sLPlains : Stmt := top 45
abbrev sLKind : Stmt := top 46
abbrev sLOddKinds : Stmt := top 47
abbrev sLOddRows : Stmt := top 48
abbrev sLAsked : Stmt := top 49
abbrev sLTold : Stmt := top 50
abbrev sLVery : Stmt := top 51
abbrev sLFalls : Stmt := top 52
abbrev sLaw : Stmt := top 53
abbrev nNodesIn : List Str := ["root", "parts_of", "waiting", "nodes", "node"]
abbrev pNodesIn : List Str := ["root", "parts_of"]
theorem scNodesIn : FnScope nNodesIn pNodesIn (defScope sNodesIn) := ⟨rfl, rfl, rfl, by decide +kernel, rfl, by decide +kernel, by decide +kernel⟩
abbrev nFromInside : List Str := ["root", "parts_of", "at_node", "came", "node", "begin", "parts"]
abbrev pFromInside : List Str := ["root", "parts_of", "at_node"]
theorem scFromInside : FnScope nFromInside pFromInside (defScope sFromInside) := ⟨rfl, rfl, rfl, by decide +kernel, rfl, by decide +kernel, by decide +kernel⟩
abbrev nIsWord : List Str := ["value", "letter"]
abbrev pIsWord : List Str := ["value"]
theorem scIsWord : FnScope nIsWord pIsWord (defScope sIsWord) := ⟨rfl, rfl, rfl, by decide +kernel, rfl, by decide +kernel, by decide +kernel⟩
abbrev nIsSigned : List Str := ["value"]
abbrev pIsSigned : List Str := ["value"]
theorem scIsSigned : FnScope nIsSigned pIsSigned (defScope sIsSigned) := ⟨rfl, rfl, rfl, by decide +kernel, rfl, by decide +kernel, by decide +kernel⟩
abbrev nIsKind : List Str := ["value", "waiting", "part"]
abbrev pIsKind : List Str := ["value"]
theorem scIsKind : FnScope nIsKind pIsKind (defScope sIsKind) := ⟨rfl, rfl, rfl, by decide +kernel, rfl, by decide +kernel, by decide +kernel⟩
abbrev nCheckKind : List Str := ["kind"]
abbrev pCheckKind : List Str := ["kind"]
theorem scCheckKind : FnScope nCheckKind pCheckKind (defScope sCheckKind) := ⟨rfl, rfl, rfl, by decide +kernel, rfl, by decide +kernel, by decide +kernel⟩
abbrev nPartsOf : List Str := ["kind"]
abbrev pPartsOf : List Str := ["kind"]
theorem scPartsOf : FnScope nPartsOf pPartsOf (defScope sPartsOf) := ⟨rfl, rfl, rfl, by decide +kernel, rfl, by decide +kernel, by decide +kernel⟩
abbrev nFolded : List Str := ["kind", "at_plain", "at_signed", "at_part"]
abbrev pFolded : List Str := ["kind", "at_plain", "at_signed"]
theorem scFolded : FnScope nFolded pFolded (defScope sFolded) := ⟨rfl, rfl, rfl, by decide +kernel, rfl, by decide +kernel, by decide +kernel⟩
abbrev nAreKinds : List Str := ["value", "kind"]
abbrev pAreKinds : List Str := ["value"]
theorem scAreKinds : FnScope nAreKinds pAreKinds (defScope sAreKinds) := ⟨rfl, rfl, rfl, by decide +kernel, rfl, by decide +kernel, by decide +kernel⟩
abbrev nIsRow : List Str := ["value"]
abbrev pIsRow : List Str := ["value"]
theorem scIsRow : FnScope nIsRow pIsRow (defScope sIsRow) := ⟨rfl, rfl, rfl, by decide +kernel, rfl, by decide +kernel, by decide +kernel⟩
abbrev nCheckRow : List Str := ["row"]
abbrev pCheckRow : List Str := ["row"]
theorem scCheckRow : FnScope nCheckRow pCheckRow (defScope sCheckRow) := ⟨rfl, rfl, rfl, by decide +kernel, rfl, by decide +kernel, by decide +kernel⟩
abbrev nTextOf : List Str := ["kind"]
abbrev pTextOf : List Str := ["kind"]
theorem scTextOf : FnScope nTextOf pTextOf (defScope sTextOf) := ⟨rfl, rfl, rfl, by decide +kernel, rfl, by decide +kernel, by decide +kernel⟩
abbrev nKindText : List Str := ["kind"]
abbrev pKindText : List Str := ["kind"]
theorem scKindText : FnScope nKindText pKindText (defScope sKindText) := ⟨rfl, rfl, rfl, by decide +kernel, rfl, by decide +kernel, by decide +kernel⟩
abbrev nPutTogether : List Str := ["text", "read", "part", "_", "first", "sign", "second"]
abbrev pPutTogether : List Str := ["text"]
theorem scPutTogether : FnScope nPutTogether pPutTogether (defScope sPutTogether) := ⟨rfl, rfl, rfl, by decide +kernel, rfl, by decide +kernel, by decide +kernel⟩
abbrev nKindTold : List Str := ["text", "kind"]
abbrev pKindTold : List Str := ["text"]
theorem scKindTold : FnScope nKindTold pKindTold (defScope sKindTold) := ⟨rfl, rfl, rfl, by decide +kernel, rfl, by decide +kernel, by decide +kernel⟩
abbrev nKindsTold : List Str := ["text", "between", "kinds", "part"]
abbrev pKindsTold : List Str := ["text", "between"]
theorem scKindsTold : FnScope nKindsTold pKindsTold (defScope sKindsTold) := ⟨rfl, rfl, rfl, by decide +kernel, rfl, by decide +kernel, by decide +kernel⟩
abbrev nReadKind : List Str := ["text", "kind"]
abbrev pReadKind : List Str := ["text"]
theorem scReadKind : FnScope nReadKind pReadKind (defScope sReadKind) := ⟨rfl, rfl, rfl, by decide +kernel, rfl, by decide +kernel, by decide +kernel⟩
abbrev nRowText : List Str := ["row", "kind"]
abbrev pRowText : List Str := ["row"]
theorem scRowText : FnScope nRowText pRowText (defScope sRowText) := ⟨rfl, rfl, rfl, by decide +kernel, rfl, by decide +kernel, by decide +kernel⟩
abbrev nReadRow : List Str := ["text"]
abbrev pReadRow : List Str := ["text"]
theorem scReadRow : FnScope nReadRow pReadRow (defScope sReadRow) := ⟨rfl, rfl, rfl, by decide +kernel, rfl, by decide +kernel, by decide +kernel⟩
abbrev nKindsText : List Str := ["kinds", "kind"]
abbrev pKindsText : List Str := ["kinds"]
theorem scKindsText : FnScope nKindsText pKindsText (defScope sKindsText) := ⟨rfl, rfl, rfl, by decide +kernel, rfl, by decide +kernel, by decide +kernel⟩
abbrev nReadKinds : List Str := ["text"]
abbrev pReadKinds : List Str := ["text"]
theorem scReadKinds : FnScope nReadKinds pReadKinds (defScope sReadKinds) := ⟨rfl, rfl, rfl, by decide +kernel, rfl, by decide +kernel, by decide +kernel⟩
abbrev nLPurse : List Str := ["script", "at", "seed"]
abbrev pLPurse : List Str := ["script", "at"]
theorem scLPurse : FnScope nLPurse pLPurse (defScope sLPurse) := ⟨rfl, rfl, rfl, by decide +kernel, rfl, by decide +kernel, by decide +kernel⟩
abbrev nLMixed : List Str := ["seed", "spin", "at", "mixed"]
abbrev pLMixed : List Str := ["seed", "spin", "at"]
theorem scLMixed : FnScope nLMixed pLMixed (defScope sLMixed) := ⟨rfl, rfl, rfl, by decide +kernel, rfl, by decide +kernel, by decide +kernel⟩
abbrev nLDraw : List Str := ["purse", "many", "drawn", "found", "piece"]
abbrev pLDraw : List Str := ["purse", "many"]
theorem scLDraw : FnScope nLDraw pLDraw (defScope sLDraw) := ⟨rfl, rfl, rfl, by decide +kernel, rfl, by decide +kernel, by decide +kernel⟩
abbrev nLPurses : List Str := ["script", "few", "at"]
abbrev pLPurses : List Str := ["script", "few"]
theorem scLPurses : FnScope nLPurses pLPurses (defScope sLPurses) := ⟨rfl, rfl, rfl, by decide +kernel, rfl, by decide +kernel, by decide +kernel⟩
abbrev nLOneOf : List Str := ["purse", "some"]
abbrev pLOneOf : List Str := ["purse", "some"]
theorem scLOneOf : FnScope nLOneOf pLOneOf (defScope sLOneOf) := ⟨rfl, rfl, rfl, by decide +kernel, rfl, by decide +kernel, by decide +kernel⟩
abbrev nLSame : List Str := ["thing", "item", "key"]
abbrev pLSame : List Str := ["thing"]
theorem scLSame : FnScope nLSame pLSame (defScope sLSame) := ⟨rfl, rfl, rfl, by decide +kernel, rfl, by decide +kernel, by decide +kernel⟩
abbrev nLExact : List Str := ["mine", "theirs", "alike", "a", "b", "key"]
abbrev pLExact : List Str := ["mine", "theirs"]
theorem scLExact : FnScope nLExact pLExact (defScope sLExact) := ⟨rfl, rfl, rfl, by decide +kernel, rfl, by decide +kernel, by decide +kernel⟩
abbrev nLWord : List Str := ["purse", "size", "spin"]
abbrev pLWord : List Str := ["purse"]
theorem scLWord : FnScope nLWord pLWord (defScope sLWord) := ⟨rfl, rfl, rfl, by decide +kernel, rfl, by decide +kernel, by decide +kernel⟩
abbrev nLWords : List Str := ["purse", "many", "base", "near", "spot", "found", "spin", "word", "letter"]
abbrev pLWords : List Str := ["purse", "many"]
theorem scLWords : FnScope nLWords pLWords (defScope sLWords) := ⟨rfl, rfl, rfl, by decide +kernel, rfl, by decide +kernel, by decide +kernel⟩
abbrev nLPlains : List Str := ["purse", "most"]
abbrev pLPlains : List Str := ["purse", "most"]
theorem scLPlains : FnScope nLPlains pLPlains (defScope sLPlains) := ⟨rfl, rfl, rfl, by decide +kernel, rfl, by decide +kernel, by decide +kernel⟩
abbrev nLKind : List Str := ["purse", "plains", "signs", "first", "one", "other"]
abbrev pLKind : List Str := ["purse", "plains", "signs"]
theorem scLKind : FnScope nLKind pLKind (defScope sLKind) := ⟨rfl, rfl, rfl, by decide +kernel, rfl, by decide +kernel, by decide +kernel⟩
abbrev nLOddKinds : List Str := ["word", "found"]
abbrev pLOddKinds : List Str := ["word"]
theorem scLOddKinds : FnScope nLOddKinds pLOddKinds (defScope sLOddKinds) := ⟨rfl, rfl, rfl, by decide +kernel, rfl, by decide +kernel, by decide +kernel⟩
abbrev nLOddRows : List Str := ["word", "found"]
abbrev pLOddRows : List Str := ["word"]
theorem scLOddRows : FnScope nLOddRows pLOddRows (defScope sLOddRows) := ⟨rfl, rfl, rfl, by decide +kernel, rfl, by decide +kernel, by decide +kernel⟩
abbrev nLAsked : List Str := ["way", "things"]
abbrev pLAsked : List Str := ["way", "things"]
theorem scLAsked : FnScope nLAsked pLAsked (defScope sLAsked) := ⟨rfl, rfl, rfl, by decide +kernel, rfl, by decide +kernel, by decide +kernel⟩
abbrev nLTold : List Str := ["way", "things", "caught", "kind", "error"]
abbrev pLTold : List Str := ["way", "things"]
theorem scLTold : FnScope nLTold pLTold (defScope sLTold) := ⟨rfl, rfl, rfl, by decide +kernel, rfl, by decide +kernel, by decide +kernel⟩
abbrev nLVery : List Str := ["told", "word", "thing", "same"]
abbrev pLVery : List Str := ["told", "word", "thing"]
theorem scLVery : FnScope nLVery pLVery (defScope sLVery) := ⟨rfl, rfl, rfl, by decide +kernel, rfl, by decide +kernel, by decide +kernel⟩
abbrev nLFalls : List Str := ["word", "kind", "odd", "way", "odds"]
abbrev pLFalls : List Str := ["word", "kind"]
theorem scLFalls : FnScope nLFalls pLFalls (defScope sLFalls) := ⟨rfl, rfl, rfl, by decide +kernel, rfl, by decide +kernel, by decide +kernel⟩
abbrev nLaw : List Str := ["script", "purse", "plains", "kind", "row", "kept", "doors", "spin", "late", "way", "thing"]
abbrev pLaw : List Str := ["script"]
theorem scLaw : FnScope nLaw pLaw (defScope sLaw) := ⟨rfl, rfl, rfl, by decide +kernel, rfl, by decide +kernel, by decide +kernel⟩
/-- a def of the top, as it stands behind it -/
structure Top (K : Frag) (mg : Str → Option Value) (x : Str) (st : Stmt) (ps : List Str) (f : Addr) (fd : FuncData) : Prop where
  F : Fun K x x st f fd
  g : mg x = some (.ref f)
  b : Binds K fd ps []
/-- the built-in names that are asked for -/
structure Blt (mg : Str → Option Value) : Prop where
  sum : mg "sum" = none
  int : mg "int" = none
  max : mg "max" = none
  min : mg "min" = none
  len : mg "len" = none
  range : mg "range" = none
  isi : mg "isinstance" = none
  list : mg "list" = none
  dict : mg "dict" = none
  tuple : mg "tuple" = none
  all : mg "all" = none
  str_ : mg "str" = none
  bool_ : mg "bool" = none
  sorted : mg "sorted" = none
  set : mg "set" = none
  reversed : mg "reversed" = none
  zip : mg "zip" = none
end V2

namespace V2
open PySem PySem.Spec PyProof.Rows L2
open PySem.W (Frag)
open TL (joinL tl tl_join)
section
variable {X : Cx}
/-- i ** j of great numbers -/
theorem op_powB : OpR X (binaryOp .Pow) (rI (fun i j => 0 ≤ j ∧ (Builtin.Int.intBits i : Int) * j ≤ 2 ^ 27) fun i j => .int (i ^ j.toNat)) :=
  opI fun i j t u s Q E c q => PyProof.Rows.pow_int c.1 c.2 q
end
section
variable {P : Program} {w : World} {K : Frag} {mg : Str → Option Value} {base : Heap}
/-! ### draws -/
/-- a purse at a, of which at most n draws were made -/
def PurseAt (H : Hp) (a : Addr) (n : Nat) : Prop := ∃ p0 p1 p2 p3 : Int, H a = some (.lst [.int p0, .int p1, .int p2, .int p3]) ∧ 0 ≤ p0 ∧ 0 ≤ p1 ∧ p1 < 2147483629 ∧ 0 ≤ p2 ∧ p2 ≤ n ∧ 0 ≤ p3 ∧ p3 ≤ 63
def spMixed : Sp := fun vs H Q _ => ∃ seed spin at_ : Int, vs = [.int seed, .int spin, .int at_] ∧ 0 ≤ seed ∧ seed < 2147483629 ∧ 0 ≤ spin ∧ spin ≤ 1099511627776 ∧ 0 ≤ at_ ∧ at_ ≤ 63 ∧ ∀ m : Int, 0 ≤ m → m < 2147483587 → Q (.int m) H
theorem ok_mixed {f : Addr} {fd : FuncData} (T : Top K mg "_law_mixed" sLMixed ["seed", "spin", "at"] f fd) (B : Blt mg) : FnOk P w K mg base CX0 1 f fd ["seed", "spin", "at"] spMixed := by
  refine T.F.ok scLMixed (fun vs H Q E h => ?_) (fun cdv A outer s H vs Q E hr h => ?_)
  · obtain ⟨_, _, _, rfl, _⟩ := h
    rfl
  · obtain ⟨seed, spin, at_, rfl, h0, h1, h2, h3, h4, h5, k⟩ := h
    refine ⟨_, (pss_cons (ps_set (i := 3) scLMixed.nd rfl (Or.inl rfl) (pe_op op_add (pe_op op_mul (pv 0) pe_int) (pe_op op_mul (pe_op op_mul pe_int (pv 1)) (pv 1))))
      (pss_cons (ps_set (i := 3) scLMixed.nd rfl (Or.inl rfl) (pe_op op_mod (pe_callTy call_int1 (by rfl) B.int (by decide +kernel) (pa_cons (pe_op op_add (pe_op op_add (pv 3) (pe_op op_mul pe_int (pv 2))) (pv 1)) pa_nil)) pe_int))
      (pss_cons (ps_set (i := 3) scLMixed.nd rfl (Or.inl rfl) (pe_op op_mod (pe_callTy call_int1 (by rfl) B.int (by decide +kernel) (pa_cons (pe_op op_add (pe_op op_mul (pv 3) (pv 3)) pe_int) pa_nil)) pe_int))
      (pss_one (ps_ret (pe_op op_mod (pe_callTy call_int1 (by rfl) B.int (by decide +kernel) (pa_cons (pe_op op_mul (pv 3) pe_int) pa_nil)) pe_int)))))), ?_⟩
    refine ⟨_, rfl, _, _, rfl, rfl, .inl ⟨by omega, by omega⟩, _, rfl, _, _, rfl, rfl, .inl ⟨by decide, by decide⟩, _, rfl, _, _, rfl, rfl, .inr ⟨by omega, by omega⟩, _, _, rfl, rfl, ?_⟩
    refine ⟨_, rfl, _, rfl, _, _, rfl, rfl, .inl ⟨by decide, by decide⟩, _, _, rfl, rfl, _, rfl, _, _, rfl, rfl, .inl ⟨_, rfl, _, _, rfl, rfl, (by show (0 : Int) < 2147483647; decide), ?_⟩⟩
    generalize e1 : (seed * 69069 + 104729 * spin * spin + 7919 * at_ + spin) % 2147483647 = m1
    have b1 : 0 ≤ m1 ∧ m1 < 2147483647 := by omega
    refine ⟨_, rfl, _, rfl, _, _, rfl, rfl, .inl ⟨by omega, by omega⟩, _, _, rfl, rfl, .inl ⟨_, rfl, _, _, rfl, rfl, (by show (0 : Int) < 2147483629; decide), ?_⟩⟩
    generalize e2 : (m1 * m1 + 40503) % 2147483629 = m2
    have b2 : 0 ≤ m2 ∧ m2 < 2147483629 := by omega
    refine ⟨_, rfl, _, _, rfl, rfl, .inl ⟨by omega, by omega⟩, .inl ⟨_, rfl, _, _, rfl, rfl, (by show (0 : Int) < 2147483587; decide), ?_⟩⟩
    exact k _ (by omega) (by omega)
def spDraw : Sp := fun vs H Q _ => ∃ (a : Addr) (n : Nat) (many : Int), vs = [.ref a, .int many] ∧ PurseAt H a n ∧ n ≤ 1000000000000 ∧ 1 ≤ many ∧ many < 1048576 ∧
  ∀ (d : Int) (H' : Hp), 0 ≤ d → d < many → (∀ b, b ≠ a → H' b = H b) → PurseAt H' a (n + 1) → Q (.int d) H'
theorem bits_small {m : Int} (h1 : 1 ≤ m) (h2 : m < 1048576) : (1 : Int) + ((Builtin.Int.intBits m : Nat) : Int) / 28 = 1 := by
  have b : Builtin.Int.intBits m ≤ 20 := by
    unfold Builtin.Int.intBits
    split
    · omega
    · have e : m.natAbs < 2 ^ 20 := by
        have : (2 : Nat) ^ 20 = 1048576 := by decide
        omega
      have := (Nat.log2_lt (by omega)).mpr e
      omega
  omega
theorem ok_draw {f fm : Addr} {fd fdm : FuncData} (T : Top K mg "_law_draw" sLDraw ["purse", "many"] f fd) (TM : Top K mg "_law_mixed" sLMixed ["seed", "spin", "at"] fm fdm) (B : Blt mg) :
    FnOk P w K mg base CX0 2 f fd ["purse", "many"] spDraw := by
  have GM : FnOk P w K mg base CX0 1 fm fdm ["seed", "spin", "at"] spMixed := ok_mixed TM B
  refine T.F.ok scLDraw (fun vs H Q E h => ?_) (fun cdv A outer s H vs Q E hr h => ?_)
  · obtain ⟨_, _, _, rfl, _⟩ := h
    rfl
  · obtain ⟨a, n, many, rfl, ⟨p0, p1, p2, p3, hp, h0, h1, h1', h2, h2', h3, h3'⟩, hn, hm1, hm2, k⟩ := h
    refine ⟨_, (pss_cons (ps_if (pt_cmpR op_gt (pe_ix ix_list (pv 0) pe_int (fun _ _ => rfl)) pe_int (nomark _))
        (pss_cons (ps_set (i := 2) scLDraw.nd rfl (Or.inl rfl) (pe_op op_mod (pe_callTy call_int1 (by rfl) B.int (by decide +kernel) (pa_cons (pe_ix ix_list (pv 0) pe_int (fun _ _ => rfl)) pa_nil)) (pv 1)))
      (pss_cons (ps_asg (pe_op op_fdiv (pe_ix ix_list (pv 0) pe_int (fun _ _ => rfl)) (pv 1)) (pg_sub (pv 0) pe_int set_list))
      (pss_one (ps_ret (pv 2))))) pss_nil)
      (pss_cons (ps_set (i := 3) scLDraw.nd rfl (Or.inl rfl) pe_int)
      (pss_cons (ps_for PassesOwn.never rfl (pi_range1 (by rfl) B.range (pa_cons (pe_op op_add pe_int (pe_op op_fdiv (pe_bits (pv 1)) pe_int)) pa_nil)) (pg_name (i := 4) scLDraw.nd rfl (Or.inl rfl))
        (pss_cons (ps_asg (pe_op op_add (pe_ix ix_list (pv 0) pe_int (fun _ _ => rfl)) pe_int) (pg_sub (pv 0) pe_int set_list))
      (pss_one (ps_set (i := 3) scLDraw.nd rfl (Or.inl rfl) (pe_op op_add (pe_op op_mul (pv 3) pe_int) (pe_call GM hr rfl TM.g TM.F.kp TM.b .nil pass0 (pa_cons (pe_ix ix_list (pv 0) pe_int (fun _ _ => rfl)) (pa_cons (pe_ix ix_list (pv 0) pe_int (fun _ _ => rfl)) (pa_cons (pe_ix ix_list (pv 0) pe_int (fun _ _ => rfl)) pa_nil)))))))))
      (pss_one (ps_ret (pe_op op_mod (pe_callTy call_int1 (by rfl) B.int (by decide +kernel) (pa_cons (pv 3) pa_nil)) (pv 1))))))), ?_⟩
    refine ⟨_, rfl, _, _, _, _, rfl, rfl, SqL.of hp, atI_nat (j := 0) rfl, _, _, rfl, rfl, _, rfl, ite2 (fun c => ?_) (fun c => ?_)⟩
    · have c' : 0 < p0 := of_decide_eq_true c
      refine ⟨_, rfl, _, _, _, _, rfl, rfl, SqL.of hp, atI_nat (j := 0) rfl, .inl ⟨_, rfl, _, rfl, _, _, rfl, rfl, (by show 0 < many; omega), ?_⟩⟩
      refine ⟨_, rfl, _, _, _, _, rfl, rfl, SqL.of hp, atI_nat (j := 0) rfl, _, rfl, _, _, rfl, rfl, ⟨by omega, by omega⟩, _, rfl, _, _, _, 0, rfl, rfl, hp, rfl, _, rfl, ?_⟩
      refine k _ _ (Int.emod_nonneg _ (by omega)) (Int.emod_lt_of_pos _ (by omega)) (fun b hb => upd_ne hb) ⟨p0 / many, p1, p2, p3, upd_same, Int.ediv_nonneg h0 (by omega), h1, h1', h2, by omega, h3, h3'⟩
    · refine ⟨_, rfl, _, rfl, _, _, rfl, rfl, ⟨by decide, by decide⟩, _, _, rfl, rfl, _, rfl, ?_, ?_, ?_⟩
      · rw [bits_small hm1 hm2]
        decide
      · rw [bits_small hm1 hm2]
        decide
      rw [bits_small hm1 hm2]
      refine for_range (lo := 0) (n := 1) (fun i σ H' => ∃ (v2 v4 : Option V) (z : Int), σ = [some (.ref a), some (.int many), v2, some (.int z), v4] ∧ (i = 0 → z = 0 ∧ H' = H) ∧ (i = 1 → (∀ b, b ≠ a → H' b = H b) ∧ PurseAt H' a (n + 1)))
        ⟨_, _, 0, rfl, fun _ => ⟨rfl, rfl⟩, fun e => by cases e⟩ ?_ ?_
      · rintro i σ H' hi ⟨v2, v4, z, rfl, hz, _⟩
        obtain rfl : i = 0 := by omega
        obtain ⟨rfl, rfl⟩ := hz rfl
        refine ⟨_, rfl, _, _, _, _, rfl, rfl, SqL.of hp, atI_nat (j := 2) rfl, _, _, rfl, rfl, _, rfl, _, _, _, 2, rfl, rfl, hp, rfl, ?_⟩
        refine ⟨_, rfl, _, _, rfl, rfl, .inl ⟨by decide, by decide⟩, _, rfl, _, _, _, _, rfl, rfl, SqL.of upd_same, atI_nat (j := 1) rfl, _, rfl, _, _, _, _, rfl, rfl, SqL.of upd_same, atI_nat (j := 2) rfl, _, rfl, _, _, _, _, rfl, rfl, SqL.of upd_same, atI_nat (j := 3) rfl, ?_⟩
        refine ⟨_, _, _, rfl, h1, h1', by omega, by omega, h3, h3', fun m m0 m1 => ⟨_, _, rfl, rfl, ?_⟩⟩
        exact ⟨_, _, _, rfl, (fun e => by cases e), fun _ => ⟨fun b hb => upd_ne hb, p0, p1, p2 + 1, p3, upd_same, h0, h1, h1', by omega, by omega, h3, h3'⟩⟩
      · rintro σ H' ⟨v2, v4, z, rfl, _, hz⟩
        obtain ⟨z1, z2⟩ := hz rfl
        exact ⟨_, rfl, .inl ⟨_, rfl, _, rfl, _, _, rfl, rfl, (by show 0 < many; omega), k _ _ (Int.emod_nonneg _ (by omega)) (Int.emod_lt_of_pos _ (by omega)) z1 z2⟩⟩
/-! ### purses -/
theorem cut_ints (ns : List Int) (lo hi : Option Int) : ∃ ms : List Int, cutV (ns.map V.int) lo hi = ms.map V.int := by
  unfold cutV
  exact ⟨_, by rw [List.map_take, List.map_drop]⟩
def spPurse (K : Frag) : Sp := fun vs H Q _ => ∃ (a : Addr) (ns : List Int) (i : Int), vs = [.ref a, .int i] ∧ SqL K H a (ns.map V.int) ∧ 0 ≤ i ∧ i ≤ 63 ∧ ∀ (p : Addr) (H' : Hp), Same H H' → H p = none → PurseAt H' p 0 → Q (.ref p) H'
theorem same_upd {H : Hp} {p : Addr} {o : HO} (h : H p = none) : Same H (upd H p o) := fun b u e => by
  rw [upd_ne (ne_of_none e h)]
  exact e
theorem ok_purse {f : Addr} {fd : FuncData} (T : Top K mg "_law_purse" sLPurse ["script", "at"] f fd) (B : Blt mg) : FnOk P w K mg base CX0 1 f fd ["script", "at"] (spPurse K) := by
  refine T.F.ok scLPurse (fun vs H Q E h => ?_) (fun cdv A outer s H vs Q E hr h => ?_)
  · obtain ⟨_, _, _, rfl, _⟩ := h
    rfl
  · obtain ⟨a, ns, i, rfl, hS, i0, i1, k⟩ := h
    refine ⟨_, (pss_cons (ps_set (i := 2) scLPurse.nd rfl (Or.inl rfl) (pe_callB (cr_sum rfl) (by rfl) B.sum (by decide +kernel) (pa_cons (pe_slice sl_list (pv 0) (po_some (pv 1)) (po_some (pe_op op_add (pv 1) pe_int))) pa_nil)))
      (pss_one (ps_ret (pe_lst (pa_cons (pe_op op_mod (pe_callTy call_int1 (by rfl) B.int (by decide +kernel) (pa_cons (pe_callB (call_max2 rfl) (by rfl) B.max (by decide +kernel) (pa_cons (pe_op op_sub (pv 2) (pe_op op_pow pe_int pe_int)) (pa_cons pe_int pa_nil))) pa_nil)) (pe_op op_powB (pe_op op_pow pe_int pe_int) pe_int)) (pa_cons (pe_op op_mod (pe_callTy call_int1 (by rfl) B.int (by decide +kernel) (pa_cons (pv 2) pa_nil)) pe_int) (pa_cons pe_int (pa_cons (pv 1) pa_nil)))))))), ?_⟩
    obtain ⟨ms, em⟩ := cut_ints ns (some i) (some (i + 1))
    refine ⟨_, rfl, _, rfl, i, rfl, _, rfl, _, _, rfl, rfl, i + 1, rfl, a, _, rfl, hS, fun q hq => ⟨q, ms, rfl, ?_, ?_⟩⟩
    · rw [em]
      exact SqL.of upd_same
    · refine ⟨_, rfl, _, _, rfl, rfl, ⟨by decide, by decide, by decide⟩, _, _, rfl, rfl, _, _, rfl, .inl ⟨_, rfl, _, _, rfl, rfl, ⟨by decide, by decide, by decide⟩, _, _, rfl, rfl, ⟨by decide, by decide +kernel⟩, _, _, rfl, rfl, (show (0 : Int) < (10 ^ (60 : Int).toNat) ^ (8 : Int).toNat by decide +kernel), ?_⟩⟩
      refine ⟨_, rfl, .inl ⟨_, rfl, _, _, rfl, rfl, (by show (0 : Int) < 2147483629; decide), _, rfl, (by show 4 ≤ sizeLine; decide), fun p hp => ?_⟩⟩
      have hp0 : H p = none := (same_upd hq).free hp
      refine k p _ ((same_upd hq).trans (same_upd hp)) hp0 ⟨_, _, 0, i, upd_same, Int.emod_nonneg _ (by decide +kernel), Int.emod_nonneg _ (by decide), Int.emod_lt_of_pos _ (by decide), Int.le_refl _, Int.le_refl _, i0, i1⟩
def spPurses (K : Frag) : Sp := fun vs H Q _ => ∃ (a : Addr) (ns : List Int), vs = [.ref a, .int 1] ∧ SqL K H a (ns.map V.int) ∧
  ∀ (L p : Addr) (H' : Hp), Same H H' → H L = none → H p = none → L ≠ p → H' L = some (.lst [.ref p]) → PurseAt H' p 0 → Q (.ref L) H'
theorem ok_purses {f fp : Addr} {fd fdp : FuncData} (T : Top K mg "_law_purses" sLPurses ["script", "few"] f fd) (TP : Top K mg "_law_purse" sLPurse ["script", "at"] fp fdp) (B : Blt mg) :
    FnOk P w K mg base CX0 2 f fd ["script", "few"] (spPurses K) := by
  have GP : FnOk P w K mg base CX0 1 fp fdp ["script", "at"] (spPurse K) := ok_purse TP B
  refine T.F.ok scLPurses (fun vs H Q E h => ?_) (fun cdv A outer s H vs Q E hr h => ?_)
  · obtain ⟨_, _, rfl, _⟩ := h
    rfl
  · obtain ⟨a, ns, rfl, hS, k⟩ := h
    refine ⟨_, pss_one (ps_ret (pe_lc (own := [("at", 2)]) (g := gName 2) (tt := tYes) rfl scLPurses.nd (pi_range1 (by rfl) B.range (pa_cons (pe_callB (call_max2 rfl) (by rfl) B.max (by decide +kernel) (pa_cons pe_int (pa_cons (pe_callB (call_min2 rfl) (by rfl) B.min (by decide +kernel) (pa_cons (pv 1) (pa_cons (pe_callB call_len_seq (by rfl) B.len PySem.boot_len (pa_cons (pv 0) pa_nil)) pa_nil))) pa_nil))) pa_nil))
      (blkOk_by (N := ["script", "few", "at"]) (sc := defScope sLPurses) (by decide +kernel)) (fun _ _ _ _ _ => pg_name (i := 2) scLPurses.nd rfl (Or.inl rfl)) (fun _ _ _ _ _ => pts_nil)
      (fun _ _ _ _ _ => (pe_call GP hr rfl TP.g TP.F.kp TP.b .nil pass0 (pa_cons (pv 0) (pa_cons (pv 2) pa_nil)))))), ?_⟩
    have e : ∀ m : Nat, (if (if (m : Int) < 1 then (m : Int) else 1) > 1 then (if (m : Int) < 1 then (m : Int) else 1) else 1) = (1 : Int) := by
      intro m
      split <;> split <;> omega
    refine ⟨_, rfl, _, rfl, a, _, rfl, .inl hS, _, _, rfl, _, _, rfl, _, rfl, ?_, ?_, ?_⟩
    · rw [e]
      decide
    · rw [e]
      decide
    rw [e]
    intro D hD
    refine lc_range (lo := 0) (n := 1) (fun i H' => (i = 0 → H' = upd H D (.lst [])) ∧ (i = 1 → ∃ p, Same H H' ∧ H p = none ∧ D ≠ p ∧ H' D = some (.lst [.ref p]) ∧ PurseAt H' p 0))
      ⟨fun _ => rfl, fun e => by cases e⟩ ?_ ?_
    · rintro i H' hi ⟨hz, _⟩
      obtain rfl : i = 0 := by omega
      obtain rfl := hz rfl
      refine ⟨rfl, _, rfl, _, rfl, a, ns, _, rfl, (same_upd hD).seq hS, by decide, by decide, fun p H2 s2 np h2 => ?_⟩
      have nDp : D ≠ p := ne_of_none upd_same np
      have eD : H2 D = some (.lst []) := s2 _ _ upd_same
      refine ⟨[], eD, by decide, fun e => (by cases e), fun _ => ⟨p, fun b o q => ?_, (same_upd hD).free np, nDp, upd_same, ?_⟩⟩
      · rw [upd_ne (ne_of_none q hD)]
        exact s2 _ _ (same_upd hD _ _ q)
      · obtain ⟨p0, p1, p2, p3, hp, r⟩ := h2
        exact ⟨p0, p1, p2, p3, by rw [upd_ne nDp.symm]; exact hp, r⟩
    · rintro H' ⟨_, hz⟩
      obtain ⟨p, s1, np, nDp, eD, hp⟩ := hz rfl
      exact k D p H' s1 hD np nDp eD hp
/-! ### what is drawn -/
def spOneOf : Sp := fun vs H Q _ => ∃ (a L : Addr) (n : Nat) (xs : List V), vs = [.ref a, .ref L] ∧ PurseAt H a n ∧ n ≤ 1000000000000 ∧ L ≠ a ∧ H L = some (.lst xs) ∧ 1 ≤ xs.length ∧ xs.length < 1048576 ∧
  ∀ (i : Nat) (x : V) (H' : Hp), xs[i]? = some x → (∀ b, b ≠ a → H' b = H b) → PurseAt H' a (n + 1) → Q x H'
theorem ok_oneOf {f fd_ fm : Addr} {fd fdd fdm : FuncData} (T : Top K mg "_law_one_of" sLOneOf ["purse", "some"] f fd) (TD : Top K mg "_law_draw" sLDraw ["purse", "many"] fd_ fdd)
    (TM : Top K mg "_law_mixed" sLMixed ["seed", "spin", "at"] fm fdm) (B : Blt mg) : FnOk P w K mg base CX0 3 f fd ["purse", "some"] spOneOf := by
  have GD : FnOk P w K mg base CX0 2 fd_ fdd ["purse", "many"] spDraw := ok_draw TD TM B
  refine T.F.ok scLOneOf (fun vs H Q E h => ?_) (fun cdv A outer s H vs Q E hr h => ?_)
  · obtain ⟨_, _, _, _, rfl, _⟩ := h
    rfl
  · obtain ⟨a, L, n, xs, rfl, hp, hn, nLa, hL, h1, h2, k⟩ := h
    refine ⟨_, pss_one (ps_ret (pe_ix ix_list (pv 1) (pe_call GD hr rfl TD.g TD.F.kp TD.b .nil pass0 (pa_cons (pv 0) (pa_cons (pe_callB call_len_seq (by rfl) B.len PySem.boot_len (pa_cons (pv 1) pa_nil)) pa_nil))) (fun _ _ => rfl))), ?_⟩
    refine ⟨_, rfl, _, rfl, _, rfl, L, _, rfl, .inl (SqL.of hL), a, n, _, rfl, hp, hn, by omega, by omega, fun d H' d0 d1 off hp' => ?_⟩
    obtain ⟨j, rfl⟩ := Int.eq_ofNat_of_zero_le d0
    have hj : j < xs.length := by omega
    refine ⟨L, xs, _, xs[j], rfl, rfl, SqL.of (by rw [off L nLa]; exact hL), atI_nat (by simp [hj]), ?_⟩
    exact k j _ H' (by simp [hj]) off hp'
/-- a word: one to eight letters -/
def IsW (z : Str) : Prop := 1 ≤ z.length ∧ z.length ≤ 8 ∧ ∀ c ∈ z.cps.toList, 97 ≤ c ∧ c ≤ 122
def abc : Str := "abcdefghijklmnopqrstuvwxyz"
theorem abc_at : ∀ j : Nat, j < 26 → abc.cps.toList[j]? = some (97 + j) := by decide +kernel
/-- the heap is kept but at a -/
def KeepBut (a : Addr) (H H' : Hp) : Prop := ∀ b o, H b = some o → b ≠ a → H' b = some o
theorem KeepBut.refl (a : Addr) (H : Hp) : KeepBut a H H := fun _ _ e _ => e
theorem KeepBut.trans {a : Addr} {H H1 H2 : Hp} (h : KeepBut a H H1) (h' : KeepBut a H1 H2) : KeepBut a H H2 := fun b o e n => h' b o (h b o e n) n
theorem KeepBut.of_same {a : Addr} {H H' : Hp} (h : Same H H') : KeepBut a H H' := fun b o e _ => h b o e
theorem KeepBut.of_off {a : Addr} {H H' : Hp} (h : ∀ b, b ≠ a → H' b = H b) : KeepBut a H H' := fun b o e n => by rw [h b n]; exact e
theorem KeepBut.free {a b : Addr} {H H' : Hp} (h : KeepBut a H H') (n : H' b = none) (hb : b ≠ a) : H b = none := by
  cases e : H b with
  | none => rfl
  | some o =>
    rw [h b o e hb] at n
    cases n
def spWord : Sp := fun vs H Q _ => ∃ (a : Addr) (n : Nat), vs = [.ref a] ∧ PurseAt H a n ∧ n ≤ 900000000000 ∧ ∀ (z : Str) (H' : Hp), IsW z → KeepBut a H H' → PurseAt H' a (n + 10) → Q (.str z) H'
theorem join_signs : ∀ cs : List Nat, joinL [] (cs.map fun c => [c]) = cs
  | [] => rfl
  | [c] => rfl
  | c :: d :: r => by
    show [c] ++ ([] ++ joinL [] ((d :: r).map fun c => [c])) = c :: d :: r
    rw [join_signs (d :: r)]
    rfl
theorem word_of (cs : List Nat) : (Txt.join ("" : Str) (cs.map fun c => (⟨#[c]⟩ : Str))).cps.toList = cs := by
  rw [TL.join_eq]
  show tl (Str.join "" (cs.map fun c => (⟨#[c]⟩ : Str))) = cs
  rw [tl_join, List.map_map]
  exact join_signs cs
theorem isW_of {cs : List Nat} (h1 : 1 ≤ cs.length) (h2 : cs.length ≤ 8) (h : ∀ c ∈ cs, 97 ≤ c ∧ c ≤ 122) : IsW (Txt.join ("" : Str) (cs.map fun c => (⟨#[c]⟩ : Str))) := by
  have e := word_of cs
  have l : (Txt.join ("" : Str) (cs.map fun c => (⟨#[c]⟩ : Str))).length = cs.length := by
    rw [← congrArg List.length e]
    exact Array.length_toList.symm
  exact ⟨by omega, by omega, by rw [e]; exact h⟩
theorem sum_ones : ∀ cs : List Nat, ((cs.map fun c => (⟨#[c]⟩ : Str)).map (·.length)).sum = cs.length
  | [] => rfl
  | c :: r => by
    show 1 + ((r.map fun c => (⟨#[c]⟩ : Str)).map (·.length)).sum = r.length + 1
    rw [sum_ones r]
    omega
theorem ok_word {f fd_ fm : Addr} {fd fdd fdm : FuncData} (T : Top K mg "_law_word" sLWord ["purse"] f fd) (TD : Top K mg "_law_draw" sLDraw ["purse", "many"] fd_ fdd)
    (TM : Top K mg "_law_mixed" sLMixed ["seed", "spin", "at"] fm fdm) (B : Blt mg) : FnOk P w K mg base CX0 3 f fd ["purse"] spWord := by
  have GD : FnOk P w K mg base CX0 2 fd_ fdd ["purse", "many"] spDraw := ok_draw TD TM B
  refine T.F.ok scLWord (fun vs H Q E h => ?_) (fun cdv A outer s H vs Q E hr h => ?_)
  · obtain ⟨_, _, rfl, _⟩ := h
    rfl
  · obtain ⟨a, n, rfl, hp, hn, k⟩ := h
    refine ⟨_, (pss_cons (ps_set (i := 1) scLWord.nd rfl (Or.inl rfl) (pe_op op_add pe_int (pe_call GD hr rfl TD.g TD.F.kp TD.b .nil pass0 (pa_cons (pv 0) (pa_cons (pe_ifExp (pt_cmpR op_eq (pe_call GD hr rfl TD.g TD.F.kp TD.b .nil pass0 (pa_cons (pv 0) (pa_cons pe_int pa_nil))) pe_int (nomark _)) pe_int pe_int) pa_nil)))))
      (pss_one (ps_ret (pe_join pe_str (pe_lc (own := [("spin", 2)]) (g := gName 2) (tt := tYes) rfl scLWord.nd (pi_range1 (by rfl) B.range (pa_cons (pv 1) pa_nil))
        (blkOk_by (N := ["purse", "size", "spin"]) (sc := defScope sLWord) (by decide +kernel)) (fun _ _ _ _ _ => pg_name (i := 2) scLWord.nd rfl (Or.inl rfl)) (fun _ _ _ _ _ => pts_nil)
        (fun _ _ _ _ _ => pe_ix ix_str pe_str (pe_call GD hr rfl TD.g TD.F.kp TD.b .nil pass0 (pa_cons (pv 0) (pa_cons pe_int pa_nil))) (fun _ _ => rfl))))))), ?_⟩
    refine ⟨_, rfl, _, rfl, a, n, _, rfl, hp, by omega, by decide, by decide, fun d1 H1 c0 c1 off1 hp1 => ⟨rfl, _, rfl, ?_⟩⟩
    refine ite2 (fun _ => ?_) (fun _ => ?_)
    all_goals
      refine ⟨a, n + 1, _, rfl, hp1, by omega, by decide, by decide, fun d2 H2 e0 e1 off2 hp2 => ?_⟩
      have e8 : d2 < 8 := by omega
      have kb : KeepBut a H H2 := (KeepBut.of_off off1).trans (.of_off off2)
      refine ⟨_, _, rfl, rfl, ⟨_, rfl⟩, _, rfl, _, rfl, by omega, by omega, fun D hD => ?_⟩
      have nDa : D ≠ a := by
        obtain ⟨_, _, _, _, e, _⟩ := hp2
        exact (ne_of_none e hD).symm
      refine lc_range (lo := 0) (n := (1 + d2).toNat) (fun i H' => KeepBut a H H' ∧ PurseAt H' a (n + 2 + i) ∧ ∃ cs : List Nat, H' D = some (.lst (cs.map fun c => V.str ⟨#[c]⟩)) ∧ cs.length = i ∧ ∀ c ∈ cs, 97 ≤ c ∧ c ≤ 122)
        ⟨fun b o q hb => ?_, ?_, [], upd_same, rfl, fun c hc => nomatch hc⟩ ?_ ?_
      · rw [upd_ne (ne_of_none (kb b o q hb) hD)]
        exact kb b o q hb
      · obtain ⟨p0, p1, p2, p3, q, r⟩ := hp2
        exact ⟨p0, p1, p2, p3, by rw [upd_ne nDa.symm]; exact q, r⟩
      · rintro i H' hi ⟨kb', hp', cs, eD, el, hc⟩
        have hi8 : i < 8 := by omega
        refine ⟨rfl, _, rfl, a, n + 2 + i, 26, rfl, hp', by omega, by decide, by decide, fun d3 H3 g0 g1 off3 hp3 => ?_⟩
        obtain ⟨j, rfl⟩ := Int.eq_ofNat_of_zero_le g0
        have hj : j < 26 := by omega
        refine ⟨abc, _, _, rfl, rfl, by decide, atI_nat (abc_at j hj), _, (by rw [off3 D nDa]; exact eD), ?_, ?_, ?_, cs ++ [97 + j], ?_, ?_, ?_⟩
        · rw [List.length_map, sizeLine_eq]
          omega
        · intro b o q hb
          have q1 : H3 b = some o := by
            rw [off3 b hb]
            exact kb' b o q hb
          rw [upd_ne ?_]
          · exact q1
          · rintro rfl
            have q2 := kb b o q hb
            rw [hD] at q2
            cases q2
        · obtain ⟨p0, p1, p2, p3, q, r⟩ := hp3
          exact ⟨p0, p1, p2, p3, by rw [upd_ne nDa.symm]; exact q, r⟩
        · rw [upd_same, List.map_append]
          rfl
        · rw [List.length_append, el]
          rfl
        · intro c hc'
          rcases List.mem_append.mp hc' with q | q
          · exact hc c q
          · have q' := List.mem_singleton.mp q
            omega
      · rintro H' ⟨kb', hp', cs, eD, el, hc⟩
        have hl : cs.length = (1 + d2).toNat := el
        refine ⟨_, D, cs.map fun c => (⟨#[c]⟩ : Str), rfl, rfl, .inl (SqL.of (by rw [eD, List.map_map]; rfl)), ?_, ?_⟩
        · rw [sum_ones, List.length_map]
          show cs.length + cs.length * 0 ≤ 16777216
          omega
        · refine k _ H' (isW_of (by omega) (by omega) hc) kb' ?_
          obtain ⟨p0, p1, p2, p3, q, r1, r2, r3, r4, r5, r6⟩ := hp'
          exact ⟨p0, p1, p2, p3, q, r1, r2, r3, r4, by omega, r6⟩
end
end V2

namespace V2
open PySem PySem.Spec PyProof.Rows L2
open PySem.W (Frag)
/-! ### types as data -/
inductive Sg | ov | th | un
  deriving DecidableEq
def Sg.str : Sg → Str
  | .ov => "over"
  | .th => "then"
  | .un => "under"
inductive Ty | w (z : Str) | n (g : Sg) (a b : Ty)
  deriving DecidableEq
inductive TyAt (H : Hp) : V → Ty → Prop
  | w {z : Str} : IsW z → TyAt H (.str z) (.w z)
  | n {p : Addr} {g : Sg} {x y : V} {a b : Ty} : H p = some (.tup [.str g.str, x, y]) → TyAt H x a → TyAt H y b → TyAt H (.ref p) (.n g a b)
/-- what is laid as a tuple stays -/
def TK (H H' : Hp) : Prop := ∀ p xs, H p = some (.tup xs) → H' p = some (.tup xs)
theorem TK.refl (H : Hp) : TK H H := fun _ _ e => e
theorem TK.trans {H H1 H2 : Hp} (h : TK H H1) (h' : TK H1 H2) : TK H H2 := fun p xs e => h' p xs (h p xs e)
theorem TK.of_same {H H' : Hp} (h : Same H H') : TK H H' := fun p xs e => h p _ e
theorem TK.upd_new {H : Hp} {a : Addr} {o : HO} (h : H a = none) : TK H (upd H a o) := TK.of_same (same_upd h)
theorem TK.upd_lst {H : Hp} {a : Addr} {xs ys : List V} (h : H a = some (.lst xs)) : TK H (upd H a (.lst ys)) := fun p zs e => by
  by_cases c : p = a
  · rw [c, h] at e
    cases e
  · rw [upd_ne c]
    exact e
theorem TyAt.mono {H H' : Hp} (k : TK H H') {v : V} {t : Ty} (h : TyAt H v t) : TyAt H' v t := by
  induction h with
  | w h => exact .w h
  | n e _ _ i1 i2 => exact .n (k _ _ e) i1 i2
def Ty.signs : Ty → Nat
  | .w _ => 0
  | .n _ a b => 1 + a.signs + b.signs
def Ty.size : Ty → Nat
  | .w _ => 1
  | .n _ a b => 1 + a.size + b.size
theorem Ty.size_signs (t : Ty) : t.size = 2 * t.signs + 1 := by
  induction t with
  | w _ => rfl
  | n g a b i j => simp only [Ty.size, Ty.signs]; omega
/-- the written names of the modules -/
structure Gbl (K : Frag) (mg : Str → Option Value) : Prop where
  letters : ∃ t, mg "_LETTERS" = some (.str abc t)
  signs : ∃ a, mg "_SIGNS" = some (.ref a) ∧ SqT K (fun _ => none) a [.str "over", .str "then", .str "under"]
theorem sqT_any {K : Frag} {a : Addr} {xs : List V} {H : Hp} (h : SqT K (fun _ => none) a xs) : SqT K H a xs := by
  rcases h with h | h
  · rcases h with h | ⟨o, h⟩
    · cases h
    · cases h
  · exact .inr h
section
variable {P : Program} {w : World} {K : Frag} {mg : Str → Option Value} {base : Heap}
/-! ### words -/
def spIsWord : Sp := fun vs H Q _ => ∃ z, vs = [.str z] ∧ IsW z ∧ ∀ H', Same H H' → Q (.bl true) H'
theorem abc_mem {c : Nat} (h1 : 97 ≤ c) (h2 : c ≤ 122) : c ∈ abc.cps.toList := by
  obtain ⟨j, rfl⟩ : ∃ j, c = 97 + j := ⟨c - 97, by omega⟩
  exact List.mem_of_getElem? (abc_at j (by omega))
theorem ok_isWord {f : Addr} {fd : FuncData} (T : Top K mg "is_word" sIsWord pIsWord f fd) (B : Blt mg) (G : Gbl K mg) : FnOk P w K mg base CX0 1 f fd pIsWord spIsWord := by
  obtain ⟨tl, gl⟩ := G.letters
  refine T.F.ok scIsWord (fun vs H Q E h => ?_) (fun cdv A outer s H vs Q E hr h => ?_)
  · obtain ⟨_, rfl, _⟩ := h
    rfl
  · obtain ⟨z, rfl, ⟨z1, z2, z3⟩, k⟩ := h
    refine ⟨_, (pss_cons (ps_if (PW.pt (pw_or (pt_not (pt_val (pe_callB call_isi (by rfl) B.isi (by decide +kernel) (pa_cons (pv 0) (pa_cons (pe_bltn (v := .ty "str") (by rfl) B.str_ (by decide +kernel) rfl) pa_nil))))) (pw_or1 (pt_not (pt_chain op_le op_le pe_int (pe_callB call_len_str (by rfl) B.len PySem.boot_len (pa_cons (pv 0) pa_nil)) pe_int))))) (pss_one (ps_ret pe_bl)) pss_nil)
      (pss_one (ps_ret (pe_callB (cr_all rfl) (by rfl) B.all (by decide +kernel) (pa_cons (pe_lc (own := [("letter", 1)]) (g := gName 1) (tt := tYes) rfl scIsWord.nd (pi_str (pv 0)) (blkOk_by (N := nIsWord) (sc := defScope sIsWord) (by decide +kernel)) (fun _ _ _ _ _ => pg_name (i := 1) scIsWord.nd rfl (Or.inl rfl)) (fun _ _ _ _ _ => pts_nil) (fun _ _ _ _ _ => (pe_cmpR op_in_sign (pv 1) (pe_glob (v := .str abc) rfl gl ⟨tl, rfl⟩) (by rfl)))) pa_nil))))), ?_⟩
    refine ⟨_, rfl, _, _, _, _, true, rfl, .ty "str", .base (.str z), kit_ty (by decide +kernel), true, rfl, iteF ?_⟩
    refine ⟨_, rfl, _, rfl, by rw [sizeLine_eq]; omega, _, _, rfl, rfl, true, congrArg V.bl (decide_eq_true (by omega)), iteT ⟨_, _, rfl, rfl, true, congrArg V.bl (decide_eq_true (by omega)), iteF ?_⟩⟩
    refine ⟨_, rfl, _, rfl, fun D hD => ?_⟩
    refine lc_it walk_str (fun i H' => H' = upd H D (.lst (List.replicate i (.bl true)))) rfl (fun _ _ _ _ => trivial) ?_ ?_
    · rintro i x H' H2 hi rfl ⟨rfl, c, hc, rfl⟩
      have hm : c ∈ z.cps.toList := Array.mem_toList_iff.mpr (Array.mem_of_getElem? hc)
      refine ⟨rfl, _, rfl, c, abc, rfl, rfl, _, upd_same, ?_, ?_⟩
      · rw [List.length_replicate, sizeLine_eq]
        have : z.cps.size ≤ 8 := z2
        omega
      · rw [upd_upd, decide_eq_true (abc_mem (z3 c hm).1 (z3 c hm).2), ← List.replicate_succ']
    · rintro H' rfl
      refine ⟨_, List.replicate z.cps.size true, rfl, SqL.of (by rw [upd_same, List.map_replicate]), ?_⟩
      have e : (List.replicate z.cps.size true).all id = true := by
        rw [List.all_eq_true]
        intro b hb
        exact (List.mem_replicate.mp hb).2
      rw [e]
      exact k _ (same_upd hD)
/-! ### signs -/
def Ty.node : Ty → Bool
  | .w _ => false
  | .n _ _ _ => true
def spIsSigned : Sp := fun vs H Q _ => ∃ v t, vs = [v] ∧ TyAt H v t ∧ Q (.bl t.node) H
theorem ok_isSigned {f : Addr} {fd : FuncData} (T : Top K mg "_is_signed" sIsSigned pIsSigned f fd) (B : Blt mg) (G : Gbl K mg) : FnOk P w K mg base CX0 1 f fd pIsSigned spIsSigned := by
  obtain ⟨sa, gs, hs⟩ := G.signs
  refine T.F.ok scIsSigned (fun vs H Q E h => ?_) (fun cdv A outer s H vs Q E hr h => ?_)
  · obtain ⟨_, _, rfl, _⟩ := h
    rfl
  · obtain ⟨v, t, rfl, ht, k⟩ := h
    refine ⟨_, pss_one (ps_ret (pe_and (pe_callB call_isi (by rfl) B.isi (by decide +kernel) (pa_cons (pv 0) (pa_cons (pe_bltn (v := .ty "tuple") (by rfl) B.tuple (by decide +kernel) rfl) pa_nil))) (pe_and (pe_cmpR op_eq (pe_callB call_len_seq (by rfl) B.len PySem.boot_len (pa_cons (pv 0) pa_nil)) pe_int (nomark _)) (pe_one (pe_cmpR op_in_seq (pe_ix ix_tup (pv 0) pe_int (fun _ _ => rfl)) (pe_glob (v := .ref sa) rfl gs rfl) (by rfl)))))), ?_⟩
    cases ht with
    | @w z h => exact ⟨_, rfl, _, _, _, _, false, rfl, .ty "tuple", .base (.str z), kit_ty (by decide +kernel), false, rfl, k⟩
    | @n p g x y a b e h1 h2 =>
      refine ⟨_, rfl, _, _, _, _, true, rfl, .ty "tuple", .base (.tup e), kit_ty (by decide +kernel), true, rfl, ?_⟩
      refine ⟨_, rfl, p, _, rfl, .inr (SqT.of e), rfl, true, rfl, ?_⟩
      refine ⟨_, rfl, p, _, _, _, rfl, rfl, SqT.of e, atI_nat (j := 0) rfl, sa, _, rfl, .inr (sqT_any hs), rfl, rfl, ?_⟩
      cases g <;> exact k
end
end V2

namespace V2
open PySem PySem.Spec PyProof.Rows L2
open PySem.W (Frag)
/-- a list of types -/
inductive Tys (H : Hp) : List V → List Ty → Prop
  | nil : Tys H [] []
  | cons {v : V} {t : Ty} {vs : List V} {ts : List Ty} : TyAt H v t → Tys H vs ts → Tys H (v :: vs) (t :: ts)
theorem Tys.mono {H H' : Hp} (k : TK H H') {vs : List V} {ts : List Ty} (h : Tys H vs ts) : Tys H' vs ts := by
  induction h with
  | nil => exact .nil
  | cons h _ ih => exact .cons (h.mono k) ih
theorem Tys.length {H : Hp} {vs : List V} {ts : List Ty} (h : Tys H vs ts) : vs.length = ts.length := by
  induction h with
  | nil => rfl
  | cons _ _ ih => simp [ih]
theorem Tys.append {H : Hp} {vs us : List V} {ts rs : List Ty} (h : Tys H vs ts) (h' : Tys H us rs) : Tys H (vs ++ us) (ts ++ rs) := by
  induction h with
  | nil => exact h'
  | cons h _ ih => exact .cons h ih
theorem Tys.at_ {H : Hp} {vs : List V} {ts : List Ty} (h : Tys H vs ts) : ∀ {i : Nat} {v : V}, vs[i]? = some v → ∃ t, ts[i]? = some t ∧ TyAt H v t := by
  induction h with
  | nil => intro i v e; simp at e
  | cons h _ ih =>
    intro i v e
    cases i with
    | zero =>
      simp at e
      subst e
      exact ⟨_, rfl, h⟩
    | succ i => exact ih (by simpa using e)
def sizes : List Ty → Nat
  | [] => 0
  | t :: r => t.size + sizes r
theorem Ty.size_pos (t : Ty) : 1 ≤ t.size := by
  cases t <;> simp [Ty.size]; omega
theorem sizes_len : ∀ ts : List Ty, ts.length ≤ sizes ts
  | [] => Nat.le_refl _
  | t :: r => by
    have := sizes_len r
    have := t.size_pos
    simp only [List.length_cons, sizes]
    omega
theorem same_over {H0 H : Hp} {W : Addr} {o : HO} (s : Same H0 H) (n : H0 W = none) : Same H0 (upd H W o) := fun b u e => by
  rw [upd_ne (ne_of_none e n)]
  exact s b u e
/-- the parts of a type, as nodes go through them -/
def Ty.parts : Ty → List Ty
  | .w _ => []
  | .n _ a b => [a, b]
theorem cut_not : ¬ (HT.sIx 3 0 (some 1) = 0 ∧ HT.sIx 3 3 none = 3) := by decide +kernel
section
variable {P : Program} {w : World} {K : Frag} {mg : Str → Option Value} {base : Heap}
def spIsKind : Sp := fun vs H Q _ => ∃ v t, vs = [v] ∧ TyAt H v t ∧ t.size ≤ 1000000 ∧ ∀ H', Same H H' → Q (.bl true) H'
theorem ok_isKind {f fs fw : Addr} {fd fds fdw : FuncData} (T : Top K mg "is_kind" sIsKind pIsKind f fd) (TS : Top K mg "_is_signed" sIsSigned pIsSigned fs fds) (TW : Top K mg "is_word" sIsWord pIsWord fw fdw) (B : Blt mg) (G : Gbl K mg) :
    FnOk P w K mg base CX0 2 f fd pIsKind spIsKind := by
  have GS : FnOk P w K mg base CX0 1 fs fds pIsSigned spIsSigned := ok_isSigned TS B G
  have GW : FnOk P w K mg base CX0 1 fw fdw pIsWord spIsWord := ok_isWord TW B G
  refine T.F.ok scIsKind (fun vs H Q E h => ?_) (fun cdv A outer s H vs Q E hr h => ?_)
  · obtain ⟨_, _, rfl, _⟩ := h
    rfl
  · obtain ⟨v, t, rfl, ht, hz, k⟩ := h
    refine ⟨_, (pss_cons (ps_set (i := 1) scIsKind.nd rfl (Or.inl rfl) (pe_lst (pa_cons (pv 0) pa_nil)))
      (pss_cons (ps_while PassesOwn.never (pt_truth (pv 1) (by intro _; rfl))
        (pss_cons (ps_set (i := 2) scIsKind.nd rfl (Or.inl rfl) (pe_bm0 PySem.F.plainAttrs_list PySem.F.slot_list_pop PySem.F.type_list_pop mt_pop (pv 1)))
      (pss_one (ps_if (pt_val (pe_call GS hr rfl TS.g TS.F.kp TS.b .nil pass0 (pa_cons (pv 2) pa_nil))) (pss_one (ps_expr (pe_bm PySem.F.plainAttrs_list PySem.F.slot_list_extend PySem.F.type_list_extend KT.mt_extT (pv 1) (pa_cons (pe_slice sl_tup (pv 2) (po_some pe_int) po_none) pa_nil))))
            (pss_one (ps_if (pt_not (pt_val (pe_call GW hr rfl TW.g TW.F.kp TW.b .nil pass0 (pa_cons (pv 2) pa_nil)))) (pss_one (ps_ret pe_bl)) pss_nil))))))
      (pss_one (ps_ret pe_bl)))), ?_⟩
    refine ⟨v, rfl, by show 1 ≤ sizeLine; rw [sizeLine_eq]; omega, fun W hW => ?_⟩
    refine ⟨fun m σ H' => ∃ (vs : List V) (ts : List Ty) (v2 : Option V), σ = [some v, some (.ref W), v2] ∧ H' W = some (.lst vs.reverse) ∧ Tys H' vs ts ∧ sizes ts = m ∧ m ≤ 1000000 ∧ Same H H', ⟨t.size, [v], [t], none, rfl, upd_same, .cons (ht.mono (TK.upd_new hW)) .nil, rfl, hz, same_upd hW⟩, ?_⟩
    rintro m σ H1 ⟨vs, ts, v2, rfl, hL, hT, rfl, hm, hs⟩
    refine ⟨_, rfl, _, .inl ⟨_, SqL.of hL, rfl⟩, ?_⟩
    cases hT with
    | nil => exact iteF (k H1 hs)
    | @cons y u vs ts h1 h2 =>
      have el : (y :: vs).reverse = vs.reverse ++ [y] := List.reverse_cons
      have c : (!(y :: vs).reverse.isEmpty) = true := by rw [el]; simp
      rw [c]
      refine iteT ⟨fun σ' H' => ∃ m' < sizes (u :: ts), ∃ (vs : List V) (ts : List Ty) (v2 : Option V), σ' = [some v, some (.ref W), v2] ∧ H' W = some (.lst vs.reverse) ∧ Tys H' vs ts ∧ sizes ts = m' ∧ m' ≤ 1000000 ∧ Same H H', fun σ' H' q => q, ?_⟩
      refine ⟨_, rfl, .inl ⟨rfl, _, SqL.of hL⟩, W, _, y, rfl, rfl, hL, by rw [el]; simp, ?_⟩
      have ed : (y :: vs).reverse.dropLast = vs.reverse := by rw [el]; simp
      rw [ed]
      have tk : TK H1 (upd H1 W (.lst vs.reverse)) := TK.upd_lst hL
      have hs' : Same H (upd H1 W (.lst vs.reverse)) := same_over hs hW
      refine ⟨y, rfl, y, u, rfl, h1.mono tk, _, rfl, ?_⟩
      cases h1 with
      | @w z hz =>
        refine iteF ⟨_, rfl, z, rfl, hz, fun H2 s2 => ⟨_, rfl, iteF ⟨sizes ts, ?_, vs, ts, _, rfl, s2 _ _ upd_same, h2.mono (tk.trans (TK.of_same s2)), rfl, ?_, hs'.trans s2⟩⟩⟩
        · show sizes ts < 1 + sizes ts
          omega
        · have : 1 + sizes ts ≤ 1000000 := hm
          omega
      | @n p g x1 x2 a b e k1 k2 =>
        refine iteT ⟨_, rfl, .inl ⟨rfl, _, SqL.of upd_same⟩, _, rfl, _, rfl, p, _, rfl, SqT.of (tk _ _ e), cut_not, fun p' hp => ?_⟩
        have np : W ≠ p' := ne_of_none upd_same hp
        refine ⟨W, p', _, _, rfl, rfl, by rw [upd_ne np, upd_same], SqT.of upd_same, ?_, ?_⟩
        · have l1 := h2.length
          have l2 := sizes_len ts
          show vs.reverse.length + 2 ≤ sizeLine
          rw [List.length_reverse, sizeLine_eq]
          have : (1 + a.size + b.size) + sizes ts ≤ 1000000 := hm
          omega
        · have hp1 : H1 p' = none := by
            rw [upd_ne np.symm] at hp
            exact hp
          have tk2 : TK H1 (upd (upd (upd H1 W (.lst vs.reverse)) p' (.tup [x1, x2])) W (.lst (vs.reverse ++ [x1, x2]))) := (tk.trans (TK.upd_new hp)).trans (TK.upd_lst (by rw [upd_ne np, upd_same]))
          have tk3 : TK H1 (upd (upd H1 W (.lst vs.reverse)) p' (.tup [x1, x2])) := tk.trans (TK.upd_new hp)
          refine ⟨b.size + (a.size + sizes ts), ?_, x2 :: x1 :: vs, b :: a :: ts, _, rfl, ?_, .cons (k2.mono tk2) (.cons (k1.mono tk2) (h2.mono tk2)), rfl, ?_, ?_⟩
          · show _ < (1 + a.size + b.size) + sizes ts
            omega
          · rw [upd_same]
            simp
            rfl
          · have : (1 + a.size + b.size) + sizes ts ≤ 1000000 := hm
            omega
          · exact same_over (hs'.trans (same_upd hp)) hW
end
end V2

/-! Functions as values: what may be called, and what must stand for it. -/
namespace KT
open PySem PySem.Spec PyProof.Rows L2 NdefX LamX
/-- objects that nobody tracks (captured cells) -/
abbrev Pins := List (Addr × Obj)
/-- function and code objects that are tracked -/
abbrev Exts := List (Addr × HO)
def Dep (D : Pins) (outer : List Env) (s : Shared) (H : Hp) : Prop := ∀ p ∈ D, s.heap.get? p.1 = some p.2 ∧ H p.1 = none ∧ p.1 ∉ frs outer
def ExOk (EX : Exts) (H : Hp) : Prop := ∀ p ∈ EX, H p.1 = some p.2
theorem Dep.nil {outer : List Env} {s : Shared} {H : Hp} : Dep [] outer s H := fun p hp => absurd hp (by simp)
theorem Dep.app {D D' : Pins} {outer : List Env} {s : Shared} {H : Hp} (h : Dep D outer s H) (h' : Dep D' outer s H) : Dep (D ++ D') outer s H := fun p hp => (List.mem_append.mp hp).elim (h p) (h' p)
theorem Dep.left {D D' : Pins} {outer : List Env} {s : Shared} {H : Hp} (h : Dep (D ++ D') outer s H) : Dep D outer s H := fun p hp => h p (List.mem_append.mpr (.inl hp))
theorem Dep.right {D D' : Pins} {outer : List Env} {s : Shared} {H : Hp} (h : Dep (D ++ D') outer s H) : Dep D' outer s H := fun p hp => h p (List.mem_append.mpr (.inr hp))
theorem Dep.go {X : Cx} {pins : List (Addr × Obj)} {σ : L2.St} {H : Hp} {s : Shared} {D : Pins} (hx : X.ex = []) (d : Dep D X.outer X.s_0 X.H_0) (I : Inv X pins σ H s) : Dep D X.stack s H := fun p hp => by
  obtain ⟨h1, h2, h3⟩ := d p hp
  have ne : p.1 ∉ X.ex := by rw [hx]; simp
  refine ⟨I.base.keep _ _ h1 h2 h3 ne, I.base.free _ _ h1 h2 ne, fun z => ?_⟩
  rcases List.mem_cons.mp (I.stkSub _ z) with e | e
  · have a := I.ok.above
    rw [← e] at a
    exact absurd (Heap.lt_size h1) (Nat.not_lt.mpr a)
  · exact h3 e
/-- f may be called by whoever keeps D and EX -/
structure Callee (P : Program) (w : World) (K : PySem.W.Frag) (mg : Str → Option Value) (base : Heap) (k : Nat) (f : Addr) (sp : Sp) (D : Pins) (EX : Exts) : Prop where
  run : ∀ (A : Around) (outer : List Env) (s : Shared) (H : Hp) (us : List Value) (vs : List V) (Q : VK), Room k A → Env0 P w K mg base A outer s H → Dep D outer s H → ExOk EX H → Vals vs us → sp vs H Q L2.E0 →
    codeAny (model P w) A (.call (.ref f) ⟨us, []⟩) (CR L2.CX0 outer P w H s Q L2.E0) s
  at_ : ∀ (h : Heap) (H : Hp), K.In h → HOk P w H h → ExOk EX H → PySem.W.FnAt f h
theorem Callee.mono {P : Program} {w : World} {K : PySem.W.Frag} {mg : Str → Option Value} {base : Heap} {k j : Nat} {f : Addr} {sp : Sp} {D D' : Pins} {EX EX' : Exts} (C : Callee P w K mg base k f sp D EX) (hk : k ≤ j) (hD : ∀ p ∈ D, p ∈ D') (hE : ∀ p ∈ EX, p ∈ EX') : Callee P w K mg base j f sp D' EX' :=
  ⟨fun A outer s H us vs Q hr e0 d x r q => C.run A outer s H us vs Q (hr.mono hk) e0 (fun p hp => d p (hD p hp)) (fun p hp => x p (hE p hp)) r q, fun h H a b c => C.at_ h H a b fun p hp => c p (hE p hp)⟩
theorem Callee.imp {P : Program} {w : World} {K : PySem.W.Frag} {mg : Str → Option Value} {base : Heap} {k : Nat} {f : Addr} {sp sp' : Sp} {D : Pins} {EX : Exts} (C : Callee P w K mg base k f sp D EX) (h : ∀ vs H Q, sp' vs H Q L2.E0 → sp vs H Q L2.E0) : Callee P w K mg base k f sp' D EX :=
  ⟨fun A outer s H us vs Q hr e0 d x r q => C.run A outer s H us vs Q hr e0 d x r (h _ _ _ q), C.at_⟩
/-- a def of the top -/
theorem callee_top {P : Program} {w : World} {K : PySem.W.Frag} {mg : Str → Option Value} {base : Heap} {k : Nat} {f : Addr} {fd : FuncData} {x q : Str} {st : Stmt} {ps : List Str} {sp : Sp} (F : FnOk P w K mg base L2.CX0 k f fd ps sp) (T : Fun K x q st f fd) (b : L2.Binds K fd ps []) : Callee P w K mg base k f sp [] [] where
  run := fun A outer s H us vs Q hr e0 _ _ r h => by
    have KX : K.In s.heap := e0.mod.kin.keeps fun b o e => (e0.bs b o e).1
    have hl : (us ++ []).length = ps.length := by
      rw [List.append_nil, ← r.length]
      exact F.len _ _ _ _ h
    have hb := b s us KX hl
    rw [List.append_nil] at hb
    exact F.run A outer s H ⟨us, []⟩ us vs Q L2.E0 hr e0 hb r h
  at_ := fun h H KX _ _ => by
    obtain ⟨oc, od, kV, doc, pm, an, cdv, ct, osl, rfl, lk, _⟩ := T.ex
    exact ⟨_, _, _, _, KX _ _ lk⟩
section
variable {X : Cx} {k i : Nat} {f : Addr} {sp : Sp} {D : Pins} {EX : Exts} {x : Str} {p pos : Pos} {e : Expr} {es : List Expr} {t : TA}
theorem run_callee {pins : List (Addr × Obj)} {σ : L2.St} {H : Hp} {s : Shared} {Q : VK} {us : List Value} {vs : List V} (C : Callee X.prog X.w X.K X.mg X.base k f sp D EX) (hr : Room k X.A) (d : Dep D X.stack s H) (x : ExOk EX H) (I : Inv X pins σ H s) (r : Vals vs us) (h : sp vs H Q L2.E0) :
    wpAny (model X.prog X.w) X.A (call (.ref f) us) (EP X pins σ Q) X.xe s := by
  refine wpAny_call (codeAny_mono (C.run X.A X.stack s H us vs Q hr I.env0 d x r h) fun q s' hq => ?_)
  match q, hq with
  | .error _, hq => exact False.elim hq
  | .ok (.ret _), hq => exact I.after hq
  | .ok .next, hq => exact False.elim hq
  | .ok .brk, hq => exact False.elim hq
  | .ok .cont, hq => exact False.elim hq
def tCallee (i : Nat) (f : Addr) (sp : Sp) (EX : Exts) (t : TA) : TE := fun σ H Q => σ[i]? = some (some (.ref f)) ∧ ExOk EX H ∧ t σ H fun vs H1 => ExOk EX H1 ∧ sp vs H1 Q L2.E0
/-- x(e, ..), x a name that holds f -/
theorem pe_callee (C : Callee X.prog X.w X.K X.mg X.base k f sp D EX) (hr : Room k X.A) (hx : X.ex = []) (d : Dep D X.outer X.s_0 X.H_0) (hN : X.N[i]? = some x) (hv : Vis X.env.scope x) (ha : PA X (e :: es) t)
    (hd : (x == ("__debug__" : Str)) = false := by decide) (hcd : (x == ("__classdict__" : Str)) = false := by decide)
    (he : starEach (e :: es) X.env = (false, eval e X.env) :: starEach es X.env := by rfl) (hpl : (backTo pos (starEach es X.env)).any (·.1) = false := by rfl) :
    PE X (.Call (.Name x p) (e :: es) [] pos) (tCallee i f sp EX t) := by
  refine ⟨fun pins s σ H Q I h => ?_⟩
  obtain ⟨hs, hE, ht⟩ := h
  refine wpAny_Call_Name_kw (thn ((pe_var (pos := p) hN hv hd hcd).run pins s σ H (fun v H1 => v = .ref f ∧ H1 = H) I ⟨.ref f, hs, rfl, rfl⟩) fun u s1 ⟨v, H1, I1, r1, q1⟩ => ?_)
  obtain ⟨ev, eH⟩ := q1
  subst ev
  rw [eH] at I1
  obtain rfl : u = Value.ref f := r1
  refine PySem.W.callWith_F (first := []) (C.at_ _ _ I1.kIn I1.hok hE) (thn (ha.run pos pins s1 σ H _ I1 ht) fun us s2 ⟨vs, H2, I2, r, h1, q⟩ => ⟨C.at_ _ _ I2.kIn I2.hok h1, ?_⟩) he hpl
  show wpAny _ _ (call (.ref f) us) _ _ _
  exact run_callee C hr (d.go hx I2) h1 I2 r q
end
/-! ### what is captured -/
/-- the cells of cl stand in D, with the values ws -/
structure CellD (D : Pins) (cl : List (Str × Addr)) (fr : List Str) (ws : List (Option V)) : Prop where
  len : ws.length = fr.length
  all : ∀ y c, cl.lookup y = some c → ∃ o v, (c, o) ∈ D ∧ o.data = .cell v
  inj : ∀ x y c, cl.lookup x = some c → cl.lookup y = some c → x = y
  has : ∀ (i : Nat) (y : Str), fr[i]? = some y → ∃ c, cl.lookup y = some c ∧ ∀ v, ws[i]? = some (some v) → ∃ u o, L2.RelV v u ∧ (c, o) ∈ D ∧ o.data = .cell (some u)
theorem CellD.at_ {D : Pins} {cl : List (Str × Addr)} {fr : List Str} {ws : List (Option V)} (C : CellD D cl fr ws) {outer : List Env} {s : Shared} {H : Hp} (d : Dep D outer s H) : CellsAt cl fr ws s.heap H where
  len := C.len
  all := fun y c e => by
    obtain ⟨o, v, hm, hd⟩ := C.all y c e
    obtain ⟨h1, h2, _⟩ := d _ hm
    exact ⟨h2, v, o, h1, hd⟩
  inj := C.inj
  has := fun i y e => by
    obtain ⟨c, hc, hv⟩ := C.has i y e
    refine ⟨c, hc, fun v ev => ?_⟩
    obtain ⟨u, o, r, hm, hd⟩ := hv v ev
    exact ⟨u, r, o, (d _ hm).1, hd⟩
theorem CellD.mono {D D' : Pins} {cl : List (Str × Addr)} {fr : List Str} {ws : List (Option V)} (C : CellD D cl fr ws) (h : ∀ p ∈ D, p ∈ D') : CellD D' cl fr ws :=
  ⟨C.len, fun y c e => by
    obtain ⟨o, v, hm, hd⟩ := C.all y c e
    exact ⟨o, v, h _ hm, hd⟩, C.inj, fun i y e => by
    obtain ⟨c, hc, hv⟩ := C.has i y e
    refine ⟨c, hc, fun v ev => ?_⟩
    obtain ⟨u, o, r, hm, hd⟩ := hv v ev
    exact ⟨u, o, r, h _ hm, hd⟩⟩
/-- the running def's own cells, as they stand -/
theorem own_cells {X : Cx} {pins : List (Addr × Obj)} {σ : L2.St} {H : Hp} {s : Shared} {cl : List (Str × Addr)} {fr : List Str} {js : List Nat} (I : Inv X pins σ H s) (hx : X.ex = []) (hfn : ∀ x, X.fn x = true) (c : Caps X cl fr js) :
    ∃ D, Dep D X.stack s H ∧ CellD D cl fr (js.map (slotAt σ)) := by
  have C := cells_of I c
  have mem : ∀ {y : Str} {a : Addr} {o : Obj}, cl.lookup y = some a → s.heap.get? a = some o → (a, o) ∈ cl.filterMap (fun p => (cl.lookup p.1).bind fun a => (s.heap.get? a).map fun o => (a, o)) := fun {y a o} e ho => by
    refine List.mem_filterMap.mpr ⟨(y, a), PySem.mem_of_lookup e, ?_⟩
    show (cl.lookup y).bind _ = _
    rw [e]
    show (s.heap.get? a).map _ = _
    rw [ho]
    rfl
  refine ⟨cl.filterMap fun p => (cl.lookup p.1).bind fun a => (s.heap.get? a).map fun o => (a, o), fun p hp => ?_, C.len, fun y a e => ?_, C.inj, fun i y e => ?_⟩
  · obtain ⟨⟨y, a0⟩, hm, e⟩ := List.mem_filterMap.mp hp
    obtain ⟨a, ha, e⟩ := Option.bind_eq_some_iff.mp e
    obtain ⟨o, ho, e⟩ := Option.map_eq_some_iff.mp e
    subst e
    have ha' : cl.lookup y = some a := ha
    have hX := c.sub y a ha'
    refine ⟨ho, (C.all y a ha').1, fun z => ?_⟩
    rcases List.mem_cons.mp (I.stkSub _ z) with e | e
    · exact I.cne y a hX e
    · obtain ⟨_, o', ho', _⟩ := I.ok.funs.mem e
      exact absurd (Heap.lt_size ho') (Nat.not_lt.mpr (I.ok.cab y a (hfn y) hX))
  · obtain ⟨_, v, o, ho, hd⟩ := C.all y a e
    exact ⟨o, v, mem e ho, hd⟩
  · obtain ⟨a, ha, hv⟩ := C.has i y e
    refine ⟨a, ha, fun v ev => ?_⟩
    obtain ⟨u, r, o, ho, hd⟩ := hv v ev
    exact ⟨u, o, r, mem ha ho, hd⟩
/-! ### functions made within defs -/
section
variable {P : Program} {w : World} {K : PySem.W.Frag} {mg : Str → Option Value} {base : Heap} {N ps fr : List Str} {ws : List (Option V)} {F : NF} {f : Addr} {k : Nat} {sp : Sp} {D : Pins} {EX : Exts}
/-- a def in a def -/
theorem callee_def (S : NScope N ps fr F.scope) (hb : ∀ (doc pm ctv : Value) (us : List Value), us.length = ps.length → bindArgs (F.fd doc pm ctv) ⟨us, []⟩ = pure (ps.zip us)) (len : ∀ vs H Q, sp vs H Q L2.E0 → vs.length = ps.length)
    (hf : (f, FnO f F) ∈ EX) (hc : (F.c, CodeO F.c F.qual) ∈ EX) (C : CellD D F.cl fr ws)
    (hbody : ∀ (A : Around) (outer : List Env) (s : Shared) (H : Hp) (vs : List V) (Q : VK), Room k (A.deeper (envF F f s.heap.objs.size)) → Dep D outer s H → ExOk EX H → sp vs H Q L2.E0 →
      ∃ t, PSs (ncx L2.CX0 P w K mg base N F f A outer s H L2.E0) F.body t ∧ t { nx := fun _ H' => Q .non H', rt := Q } (startF N vs ws) H) :
    Callee P w K mg base (k + 1) f sp D EX where
  at_ := fun h H _ hok x => by
    obtain ⟨od, sl, doc, pm, ctv, ho⟩ := fnO_at hok (x _ hf)
    exact ⟨_, od, _, sl, ho⟩
  run := fun A outer s H us vs Q hr e0 d x r hsp => by
    have hl := len _ _ _ hsp
    have lim : s.heap.NoLimit := e0.mod.nolimit.keeps fun b o e => (e0.bs b o e).1
    obtain ⟨od, sl, doc, pm, ctv, ho⟩ := fnO_at e0.hok (x _ hf)
    refine codeAny_call_function hr.depth ho rfl S.co S.gen rfl (codeO_at e0.hok (x _ hc)) ?_
    rw [hb doc pm ctv us (by rw [← r.length]; exact hl)]
    refine wpAny_pure (wpAny_newFunctionEnv S.nocell (fun ⟨n, _⟩ hy => S.par n (List.of_mem_zip hy).1) (fun h₁ hns hsb => ⟨lim.fresh _ hsb, ?_⟩) S.kind)
    show codeAny _ _ (.func F.body (envF F f s.heap.objs.size)) _ _
    refine codeAny_func ?_
    have kp : ∀ b o, s.heap.get? b = some o → h₁.get? b = some o := fun b o e => hsb.extBut b o (Nat.ne_of_lt (Heap.lt_size e)) (Heap.get?_push_of_some _ e)
    obtain ⟨t, ht, hq⟩ := hbody A outer s H vs Q (hr.deeper _) d x hsp
    have I : Inv (ncx L2.CX0 P w K mg base N F f A outer s H L2.E0) [] (startF N vs ws) H { s with heap := h₁, toks := s.toks + (ps.zip us).length } := inv_startN S hr.hd e0 hl r (C.at_ d) hns kp
    refine wpAny_mono (ht.run [] _ (startF N vs ws) H _ I hq) (fun fl s' hs => ?_) fun e s' hs => hs
    have fin : ∀ {σ' : L2.St} {H' : Hp} {v : V} {u : Value}, Inv (ncx L2.CX0 P w K mg base N F f A outer s H L2.E0) [] σ' H' s' → L2.RelV v u → Q v H' → CE outer P w H s Q u s' :=
      fun {σ' H' v u} J rv q => ⟨v, H', J.os, J.bare, J.base, J.hok, rv, q⟩
    match fl, hs with
    | .ret u, ⟨v, σ', H', J, rv, q⟩ => exact fin J rv q
    | .next, ⟨σ', H', J, q⟩ => exact fin (v := V.non) (u := Value.none) J rfl q
    | .brk, ⟨_, _, _, q⟩ => exact False.elim q
    | .cont, ⟨_, _, _, q⟩ => exact False.elim q
/-- the object at f is the lambda of these words -/
def LamO (f : Addr) (F : NF) (body : Expr) : HO := .ext fun h => ∃ (pm ctv : Value), h.get? f = some (PySem.W.kla_obj F.name F.qual F.params body F.scope F.cl pm F.c ctv)
theorem lamO_at {H : Hp} {h : Heap} {body : Expr} (hok : HOk P w H h) (e : H f = some (LamO f F body)) : ∃ (pm ctv : Value), h.get? f = some (PySem.W.kla_obj F.name F.qual F.params body F.scope F.cl pm F.c ctv) := by
  obtain ⟨z, _, _⟩ := hok f _ e
  exact z
theorem callee_lam {body : Expr} (S : NScope N ps fr F.scope) (hb : ∀ (pm ctv : Value) (us : List Value), us.length = ps.length → bindArgs (PySem.W.kla_fn F.name F.qual F.params body F.scope F.cl pm (.ref F.c) ctv) ⟨us, []⟩ = pure (ps.zip us)) (len : ∀ vs H Q, sp vs H Q L2.E0 → vs.length = ps.length)
    (hf : (f, LamO f F body) ∈ EX) (hc : (F.c, CodeO F.c F.qual) ∈ EX) (C : CellD D F.cl fr ws)
    (hbody : ∀ (A : Around) (outer : List Env) (s : Shared) (H : Hp) (vs : List V) (Q : VK), Room k (A.deeper (envF F f s.heap.objs.size)) → Dep D outer s H → ExOk EX H → sp vs H Q L2.E0 →
      ∃ t, PE (ncx L2.CX0 P w K mg base N F f A outer s H L2.E0) body t ∧ t (startF N vs ws) H Q) :
    Callee P w K mg base (k + 1) f sp D EX where
  at_ := fun h H _ hok x => by
    obtain ⟨pm, ctv, ho⟩ := lamO_at hok (x _ hf)
    exact ⟨_, _, _, _, ho⟩
  run := fun A outer s H us vs Q hr e0 d x r hsp => by
    have hl := len _ _ _ hsp
    have lim : s.heap.NoLimit := e0.mod.nolimit.keeps fun b o e => (e0.bs b o e).1
    obtain ⟨pm, ctv, ho⟩ := lamO_at e0.hok (x _ hf)
    refine PySem.W.kla_callFunE hr.depth ho rfl S.co S.gen rfl (codeO_at e0.hok (x _ hc)) ?_
    rw [hb pm ctv us (by rw [← r.length]; exact hl)]
    refine wpAny_pure (wpAny_newFunctionEnv S.nocell (fun ⟨n, _⟩ hy => S.par n (List.of_mem_zip hy).1) (fun h₁ hns hsb => ⟨lim.fresh _ hsb, ?_⟩) S.kind)
    show codeAny _ _ (.expr body (envF F f s.heap.objs.size)) _ _
    have kp : ∀ b o, s.heap.get? b = some o → h₁.get? b = some o := fun b o e => hsb.extBut b o (Nat.ne_of_lt (Heap.lt_size e)) (Heap.get?_push_of_some _ e)
    obtain ⟨t, ht, hq⟩ := hbody A outer s H vs Q (hr.deeper _) d x hsp
    have I : Inv (ncx L2.CX0 P w K mg base N F f A outer s H L2.E0) [] (startF N vs ws) H { s with heap := h₁, toks := s.toks + (ps.zip us).length } := inv_startN S hr.hd e0 hl r (C.at_ d) hns kp
    refine PySem.W.kla_codeExpr (wpAny_mono (ht.run [] _ (startF N vs ws) H Q I hq) (fun v s' hq => ?_) fun e s' hq => hq)
    obtain ⟨w', H', J, rv, q⟩ := hq
    exact ⟨w', H', J.os, J.bare, J.base, J.hok, rv, q⟩
end
end KT

/-! A lambda as a value; defs whose promise stands on captured cells. -/
namespace KT
open PySem PySem.Spec PyProof.Rows L2 NdefX LamX
section
variable {X : Cx} {pins : List (Addr × Obj)} {σ : L2.St} {H : Hp} {s : Shared}
theorem inv_lam {F : NF} {body : Expr} {o : Obj} {t' : Nat} {pm ctv : Value} (I : Inv X pins σ H s) (ho : o = PySem.W.kla_obj F.name F.qual F.params body F.scope F.cl pm F.c ctv) :
    Inv X pins σ (upd H s.heap.objs.size (LamO s.heap.objs.size F body)) { s with heap := s.heap.push o, toks := t' } := by
  subst ho
  refine I.laid (a := s.heap.objs.size) (fun b u e => Heap.get?_push_of_some _ e) (Nat.le_refl _) ?_
  have e : (s.heap.push (PySem.W.kla_obj F.name F.qual F.params body F.scope F.cl pm F.c ctv)).get? s.heap.objs.size = some (PySem.W.kla_obj F.name F.qual F.params body F.scope F.cl pm F.c ctv) := Heap.get?_push_size _ rfl
  exact ⟨⟨pm, ctv, e⟩, ⟨_, e⟩, fun h1 h2 ⟨p, t, z⟩ st => ⟨p, t, st _ z⟩⟩
abbrev lamF (X : Cx) (params : Arguments) (scope : Scope) (c' : Addr) : NF := ⟨"<lambda>", X.env.qual ++ "<lambda>", params, [], scope, cloFrom X.env.cells scope.names [], c'⟩
theorem lam_makeT {T : List (Addr × Str)} {c P : Addr} {params : Arguments} {body : Expr} {scope : Scope} {pos : Pos} {E : Value → Shared → Prop} {Q : Value → Shared → Prop} (I : Inv X pins σ H s) (TB : TabB X.base X.mg c P) (hcode : X.env.code = .ref c)
    (hm : (P, X.env.qual ++ "<lambda>") ∈ T) (hu : ∀ p ∈ T, p.1 = P → p.2 = X.env.qual ++ "<lambda>") (hT : Tabs T H) (hdef : defaultsOf params X.env = ([], [])) (hfree : ∀ y ∈ scope.names, y.2 = .free → ∃ c, X.env.cells.lookup y.1 = some c)
    (h : ∀ (f c' : Addr) (H1 : Hp) (s' : Shared), Inv X pins σ H1 s' → ExtN H H1 → (∀ b, H1 b = none → H b = none) → Tabs T H1 → H f = none → H1 f = some (LamO f (lamF X params scope c') body) → H1 c' = some (CodeO c' (X.env.qual ++ "<lambda>")) → Q (.ref f) s') :
    wpAny (model X.prog X.w) X.A (eval (.Lambda params body scope pos) X.env) Q E s := by
  obtain ⟨ps, hP, ht, ha⟩ := hT _ hm
  refine PySem.W.kla_eval hdef ?_
  have bP : s.heap.BuiltinsAt X.mg P := TB.bm.keeps I.bk
  have hP' : s.heap.get? P = some { cls := .none, data := .fields ps } := I.hok P _ hP
  cases hc : codeAmong pos ps.toList with
  | none =>
    refine PySem.W.kla_makeFunction (mg := X.mg) (c := c) (P := P) (ps := ps) (closure_ok hfree) I.ok.glob (I.mod.glob.keeps I.bk) hcode (TB.code.keeps I.bk) hP' ht hc TB.gP bP fun c' ctv h' tk hx hge hlt hrec htb => ?_
    obtain ⟨c2, oc, vs, t, e2, hoc, hd, hv⟩ := hrec
    cases e2
    have nC : H c' = none := I.hok.fresh hge
    have I1 := inv_table (t' := tk) (more := #[rawInt pos.line, rawInt pos.col, .ref c']) (h' := h') I hP (fun b o hb e => hx b o hb e) htb hge ⟨oc, vs, t, hoc, hd, hv⟩
    have hE : ExtN H (upd (upd H P (.tbl (ps ++ #[rawInt pos.line, rawInt pos.col, .ref c']))) c' (CodeO c' (X.env.qual ++ "<lambda>"))) := fun b o e n => by
      rw [upd_ne (ne_of_none e nC), upd_ne (fun z => n ps (Option.some.inj (e.symm.trans (by rw [z]; exact hP))))]
      exact e
    have eL : (ps ++ #[rawInt pos.line, rawInt pos.col, .ref c']).toList = ps.toList ++ [rawInt pos.line, rawInt pos.col, .ref c'] := by simp
    have T1 : Tabs T (upd (upd H P (.tbl (ps ++ #[rawInt pos.line, rawInt pos.col, .ref c']))) c' (CodeO c' (X.env.qual ++ "<lambda>"))) := fun p hp => by
      by_cases hb : p.1 = P
      · rw [hu p hp hb, hb]
        refine ⟨_, by rw [upd_ne (ne_of_none hP nC), upd_same], by rw [eL]; exact PySem.TriplesOk_snoc _ _ _ _ ht, fun p' cv hcv => ?_⟩
        rw [eL] at hcv
        rcases among_app _ ht hcv with z | z
        · obtain ⟨c0, e1, e2⟩ := ha p' cv z
          exact ⟨c0, e1, hE _ _ e2 codeO_ne⟩
        · exact ⟨c', z, upd_same⟩
      · obtain ⟨ps', a1, a2, a3⟩ := hT p hp
        refine ⟨ps', by rw [upd_ne (ne_of_none a1 nC), upd_ne hb]; exact a1, a2, fun p' cv hcv => ?_⟩
        obtain ⟨c0, e1, e2⟩ := a3 p' cv hcv
        exact ⟨c0, e1, hE _ _ e2 codeO_ne⟩
    have nF := I1.hok.fresh (Nat.le_refl _)
    have I2 := inv_lam (F := lamF X params scope c') (body := body) (t' := tk) (pm := (X.mg "__name__").getD .none) (ctv := ctv) I1 rfl
    refine h h'.objs.size c' _ _ I2 (fun b o e n => ?_) (fun b e => upd_none (upd_none (upd_none e))) (T1.ext fun b o e => ?_) (I.hok.fresh (Nat.le_trans hge (Nat.le_of_lt hlt))) upd_same ?_
    · have e1 := hE b o e n
      exact (upd_ne (ne_of_none e1 nF)).trans e1
    · exact (upd_ne (ne_of_none e nF)).trans e
    · exact (upd_ne (Nat.ne_of_lt hlt)).trans upd_same
  | some cv =>
    obtain ⟨c', e, hco⟩ := ha pos cv hc
    subst e
    refine PySem.W.kla_makeFunctionHit (mg := X.mg) (c := c) (P := P) (ps := ps) (closure_ok hfree) I.ok.glob (I.mod.glob.keeps I.bk) hcode (TB.code.keeps I.bk) hP' ht hc bP fun ctv h' tk hx hsz => ?_
    have I1 : Inv X pins σ H { s with heap := h', toks := tk } := I.kept hx
    have nF : H h'.objs.size = none := I1.hok.fresh (Nat.le_refl _)
    have I2 := inv_lam (F := lamF X params scope c') (body := body) (t' := tk) (pm := (X.mg "__name__").getD .none) (ctv := ctv) I1 rfl
    refine h h'.objs.size c' _ _ I2 (fun b o e n => ?_) (fun b e => upd_none e) (hT.ext fun b o e => ?_) nF upd_same ?_
    · exact (upd_ne (ne_of_none e nF)).trans e
    · exact (upd_ne (ne_of_none e nF)).trans e
    · exact (upd_ne (ne_of_none hco nF)).trans hco
end
/-- lambda ..: .., as a value -/
def tLamV (T : List (Addr × Str)) (mk : Addr → NF) (body : Expr) : TE := fun _ H Q => Tabs T H ∧ ∀ (f c' : Addr) (H1 : Hp), ExtN H H1 → (∀ b, H1 b = none → H b = none) → Tabs T H1 → H f = none → H1 f = some (LamO f (mk c') body) → H1 c' = some (CodeO c' (mk c').qual) → Q (.ref f) H1
section
variable {X : Cx}
theorem pe_lamV {T : List (Addr × Str)} {c P : Addr} {params : Arguments} {body : Expr} {scope : Scope} {pos : Pos} (TB : TabB X.base X.mg c P) (hcode : X.env.code = .ref c)
    (hm : (P, X.env.qual ++ "<lambda>") ∈ T) (hu : ∀ p ∈ T, p.1 = P → p.2 = X.env.qual ++ "<lambda>") (hdef : defaultsOf params X.env = ([], []))
    (hfree : ∀ y ∈ scope.names, y.2 = .free → X.env.scope.names.lookup y.1 = some .cell ∨ X.env.scope.names.lookup y.1 = some .free) :
    PE X (.Lambda params body scope pos) (tLamV T (lamF X params scope) body) := by
  refine ⟨fun pins s σ H Q I h => ?_⟩
  obtain ⟨hT, h⟩ := h
  have hfr : ∀ y ∈ scope.names, y.2 = .free → ∃ c, X.env.cells.lookup y.1 = some c := fun y hy e => (hfree y hy e).elim (fun z => I.ok.has _ (.inl z)) fun z => I.ok.has _ (.inr z)
  exact lam_makeT I TB hcode hm hu hT hdef hfr fun f c' H1 s' I1 eN nn T1 f0 f1 c1 => ⟨.ref f, H1, I1, rfl, h f c' H1 eN nn T1 f0 f1 c1⟩
end
/-! ### defs whose promise stands on pins -/
structure FnD (P : Program) (w : World) (K : PySem.W.Frag) (mg : Str → Option Value) (base : Heap) (k : Nat) (f : Addr) (fd : FuncData) (ps : List Str) (sp : Pins → Sp) : Prop where
  len : ∀ D vs H Q, sp D vs H Q L2.E0 → vs.length = ps.length
  run : ∀ (D : Pins) (B : Around) (outer : List Env) (s : Shared) (H : Hp) (args : Args) (us : List Value) (vs : List V) (Q : VK), Room k B → Env0 P w K mg base B outer s H →
    BindsTo s fd args (ps.zip us) → Vals vs us → Dep D outer s H → sp D vs H Q L2.E0 → codeAny (model P w) B (.call (.ref f) args) (CR L2.CX0 outer P w H s Q L2.E0) s
/-- THE RULE for such a def; c: its code object -/
theorem fnd_of {P : Program} {w : World} {K : PySem.W.Frag} {mg : Str → Option Value} {base : Heap} {x qual : Str} {st : Stmt} {f c : Addr} {N ps : List Str} {k : Nat} {sp : Pins → Sp} {oc : Value} {od : Option Addr} {kV doc pm : Value} {an : Option Addr} {ct : Value} {osl : Array (Option Value)}
    (lk : K.lookup f = some ⟨oc, od, .func (PySem.W.fnOf x qual (L2.defArgs st) (L2.defBody st) (L2.defScope st) .none kV doc pm an (.ref c) ct), osl⟩) (hcd : PySem.W.codeIn K (.ref c) qual = true)
    (S : FnScope N ps (L2.defScope st)) (len : ∀ D vs H Q, sp D vs H Q L2.E0 → vs.length = ps.length)
    (body : ∀ (D : Pins) (B : Around) (outer : List Env) (s : Shared) (H : Hp) (vs : List V) (Q : VK), Room k (B.deeper (envOfC qual (L2.defScope st) s.heap.objs.size f (.ref c))) → Dep D outer s H → sp D vs H Q L2.E0 →
      ∃ t, PSs (cxOf L2.CX0 P w K mg base N qual (L2.defScope st) f (.ref c) B outer s H L2.E0).nox (L2.defBody st) t ∧ t { nx := fun _ H' => Q .non H', rt := Q } (start N vs) H) :
    FnD P w K mg base (k + 1) f (PySem.W.fnOf x qual (L2.defArgs st) (L2.defBody st) (L2.defScope st) .none kV doc pm an (.ref c) ct) ps sp := by
  refine ⟨len, fun D B outer s H args us vs Q hr e0 hb r d hsp => ?_⟩
  have hl := len _ _ _ _ hsp
  have KX : K.In s.heap := e0.mod.kin.keeps fun b o e => (e0.bs b o e).1
  have lim : s.heap.NoLimit := e0.mod.nolimit.keeps fun b o e => (e0.bs b o e).1
  have kinds : ∀ y ∈ ps.zip us, (L2.defScope st).names.lookup y.1 = some .local ∨ ((L2.defScope st).names.lookup y.1 = some .cell ∧ ((cellsFrom (s.heap.objs.size + 1) (L2.defScope st).names []).lookup y.1).isSome = true) := by
    rintro ⟨n, v⟩ hy
    exact (S.par n (List.of_mem_zip hy).1).imp id fun q => ⟨q, PySem.W.cellsFrom_some _ _ _ (.inl q)⟩
  refine codeAny_call_function hr.depth (KX _ _ lk) rfl S.co S.gen rfl (PySem.W.codeRec_of KX hcd) (hb _ _ _ _ ?_)
  refine wpAny_newFunctionEnv_cells S.kind kinds fun env he s1 z => ?_
  subst he
  refine ⟨lim.keeps z.toInCall.keep, codeAny_func ?_⟩
  obtain ⟨t, ht, hq⟩ := body D B outer s H vs Q (hr.deeper _) d hsp
  have I := inv_start (CX := L2.CX0) (E := L2.E0) S hr.hd e0 hl r z
  refine wpAny_mono (ht.nox.run [] s1 (start N vs) H _ I hq) (fun fl s' hs => ?_) fun e s' hs => hs
  match fl, hs with
  | .ret u, ⟨v, σ', H', J, rv, q⟩ => exact ⟨v, H', J.os, J.bare, J.base, J.hok, rv, q⟩
  | .next, ⟨σ', H', J, q⟩ => exact ⟨V.non, H', J.os, J.bare, J.base, J.hok, rfl, q⟩
  | .brk, ⟨_, _, _, q⟩ => exact False.elim q
  | .cont, ⟨_, _, _, q⟩ => exact False.elim q
section
variable {X : Cx} {k : Nat} {f : Addr} {fd : FuncData} {ps : List Str} {sp : Pins → Sp} {x : Str} {p pos : Pos} {e : Expr} {es : List Expr} {t : TA} {D0 : Pins}
/-- f(e, ..), what stands for D0 and the cells cl of the running def -/
def tDCall (D0 : Pins) (cl : List (Str × Addr)) (fr : List Str) (js : List Nat) (sp : Pins → Sp) (t : TA) : TE := fun σ H Q => t σ H fun vs H1 => ∀ D1 : Pins, CellD D1 cl fr (js.map (slotAt σ)) → sp (D0 ++ D1) vs H1 Q L2.E0
theorem pe_dcall {cl : List (Str × Addr)} {fr : List Str} {js : List Nat} (F : FnD X.prog X.w X.K X.mg X.base k f fd ps sp) (hr : Room k X.A) (hx : X.ex = []) (hfn : ∀ x, X.fn x = true) (d : Dep D0 X.outer X.s_0 X.H_0) (cp : X.Ok → Caps X cl fr js)
    (hg : Gl X x) (hm : X.mg x = some (.ref f)) (hk : PySem.W.keepIn X.K (.ref f) = true) (hb : L2.Binds X.K fd ps [])
    (ha : PA X (e :: es) t) (hdb : (x == ("__debug__" : Str)) = false := by decide) (he : starEach (e :: es) X.env = (false, eval e X.env) :: starEach es X.env := by rfl) (hpl : (backTo pos (starEach es X.env)).any (·.1) = false := by rfl) :
    PE X (.Call (.Name x p) (e :: es) [] pos) (tDCall D0 cl fr js sp t) := by
  refine ⟨fun pins s σ H Q I h => wpAny_Call_Name_kw (ld_glob I hg hm ?_ hdb)⟩
  refine PySem.W.callWith_K (h₀ := X.base) I.ok.mod.kin hk (thn (ha.run pos pins s σ H _ I h) fun us s1 ⟨vs, H1, I1, r, q⟩ => ⟨I1.kIn, ?_⟩) he hpl
  obtain ⟨D1, d1, C1⟩ := own_cells I1 hx hfn (cp I1.ok)
  have hq := q D1 C1
  have hl : (us ++ []).length = ps.length := by
    rw [List.append_nil, ← r.length]
    exact F.len _ _ _ _ hq
  have hb' := hb s1 us I1.kIn hl
  rw [List.append_nil] at hb'
  refine wpAny_call (codeAny_mono (F.run (D0 ++ D1) X.A X.stack s1 H1 ⟨us, []⟩ us vs Q hr I1.env0 hb' r ((d.go hx I1).app d1) hq) fun q s' hq => ?_)
  match q, hq with
  | .error _, hq => exact False.elim hq
  | .ok (.ret _), hq => exact I1.after hq
  | .ok .next, hq => exact False.elim hq
  | .ok .brk, hq => exact False.elim hq
  | .ok .cont, hq => exact False.elim hq
end
end KT

namespace KT
open PySem PySem.Spec PyProof.Rows L2 NdefX LamX
/-- a promise that needs no pins is one of the plain kind -/
theorem FnD.ok {P : Program} {w : World} {K : PySem.W.Frag} {mg : Str → Option Value} {base : Heap} {k : Nat} {f : Addr} {fd : FuncData} {ps : List Str} {sp : Sp} (F : FnD P w K mg base k f fd ps (fun _ => sp)) (h0 : ∀ vs H Q E, sp vs H Q E → sp vs H Q L2.E0) : FnOk P w K mg base L2.CX0 k f fd ps sp := by
  refine ⟨fun vs H Q E h => F.len [] vs H Q (h0 _ _ _ _ h), fun B outer s H args us vs Q E hr e0 hb r h => codeAny_mono (F.run [] B outer s H args us vs Q hr e0 hb r Dep.nil (h0 _ _ _ _ h)) fun q s' hq => ?_⟩
  match q, hq with
  | .error _, hq => exact False.elim hq
  | .ok (.ret _), hq => exact hq
  | .ok .next, hq => exact False.elim hq
  | .ok .brk, hq => exact False.elim hq
  | .ok .cont, hq => exact False.elim hq
theorem CellD.nil {D : Pins} : CellD D [] [] [] := ⟨rfl, fun y c e => (by cases e), fun x y c e => (by cases e), fun i y e => (by simp at e)⟩
theorem Caps.nil {X : Cx} : Caps X [] [] [] := ⟨fun y c e => (by cases e), fun y hy => (by cases hy), fun y hy => (by cases hy), rfl⟩
section
variable {P : Program} {w : World} {K : PySem.W.Frag} {mg : Str → Option Value} {base : Heap} {N ps fr : List Str} {ws : List (Option V)} {F : NF} {f : Addr} {k : Nat} {sp : Sp} {D : Pins} {body : Expr} {H0 : Hp}
theorem lam_callee (e1 : H0 f = some (LamO f F body)) (e2 : H0 F.c = some (CodeO F.c F.qual)) (S : NScope N ps fr F.scope) (hb : ∀ (pm ctv : Value) (us : List Value), us.length = ps.length → bindArgs (PySem.W.kla_fn F.name F.qual F.params body F.scope F.cl pm (.ref F.c) ctv) ⟨us, []⟩ = pure (ps.zip us))
    (len : ∀ vs H Q, sp vs H Q L2.E0 → vs.length = ps.length) (C : CellD D F.cl fr ws)
    (hbody : ∀ (A : Around) (outer : List Env) (s : Shared) (H : Hp) (vs : List V) (Q : VK), Room k (A.deeper (envF F f s.heap.objs.size)) → Dep D outer s H → sp vs H Q L2.E0 →
      ∃ t, PE (ncx L2.CX0 P w K mg base N F f A outer s H L2.E0) body t ∧ t (startF N vs ws) H Q) :
    ∃ EX : Exts, Callee P w K mg base (k + 1) f sp D EX ∧ ExOk EX H0 ∧ ∀ p ∈ EX, ∀ ps, p.2 ≠ HO.tbl ps := by
  refine ⟨[(f, LamO f F body), (F.c, CodeO F.c F.qual)], callee_lam S hb len List.mem_cons_self (List.mem_cons_of_mem _ List.mem_cons_self) C fun A outer s H vs Q hr d _ h => hbody A outer s H vs Q hr d h, fun p hp => ?_, fun p hp ps => ?_⟩
  · rcases List.mem_cons.mp hp with rfl | hp
    · exact e1
    · rcases List.mem_cons.mp hp with rfl | hp
      · exact e2
      · exact absurd hp (by simp)
  · rcases List.mem_cons.mp hp with rfl | hp
    · exact fun z => by
        unfold LamO at z
        cases z
    · rcases List.mem_cons.mp hp with rfl | hp
      · exact codeO_ne ps
      · exact absurd hp (by simp)
end
end KT

namespace KT
open PySem PySem.Spec PyProof.Rows L2
theorem vals_at : ∀ {xs : List V} {us : List Value}, xs.length = us.length → (∀ (i : Nat) (x : V) (u : Value), xs[i]? = some x → us[i]? = some u → L2.RelV x u) → Vals xs us
  | [], [], _, _ => .nil
  | [], _ :: _, h, _ => by simp at h
  | _ :: _, [], h, _ => by simp at h
  | x :: xs, u :: us, h, k => .cons (k 0 x u rfl rfl) (vals_at (by simpa using h) fun i y v e1 e2 => k (i + 1) y v (by simpa using e1) (by simpa using e2))
section
variable {X : Cx}
/-- the signs of a text, one by one -/
def signsV (z : Str) : List V := z.cps.toList.map fun c => V.str ⟨#[c]⟩
/-- list(text) -/
theorem call_listS (hc : X.calm = true) : CallR X (.type "list") (fun xs H Q => ∃ z : Str, xs = [.str z] ∧ z.cps.size ≤ sizeLine ∧ ∀ p, H p = none → Q (.ref p) (upd H p (.lst (signsV z)))) := by
  intro pins s σ H xs us Q I r h
  obtain ⟨z, rfl, hz, q⟩ := h
  obtain ⟨u, rfl, t, rfl⟩ := vals1 r
  refine PySem.call_list_str (I.ok.hd hc) z t (fun h' tk acc c hk e hi => ?_) hz
  have rv : Vals (signsV z) acc.toList := by
    refine vals_at ?_ fun i x u h1 h2 => ?_
    · unfold signsV
      rw [List.length_map, Array.length_toList, Array.length_toList]
      exact hi.1.symm
    · obtain ⟨c, u', hc', rfl⟩ := hi.2 i u (by rw [← h2, Array.getElem?_toList])
      unfold signsV at h1
      rw [List.getElem?_map, Array.getElem?_toList, hc'] at h1
      cases h1
      exact ⟨u', rfl⟩
  refine ⟨.ref s.heap.objs.size, upd H s.heap.objs.size (.lst (signsV z)), I.laid hk (Nat.le_refl _) (show ObjOk X.prog X.w _ _ _ (.lst (signsV z)) from ⟨?_, acc.toList, c, rv, ?_⟩), rfl, q _ (I.hok.fresh (Nat.le_refl _))⟩
  · unfold signsV
    rw [List.length_map, Array.length_toList]
    exact hz
  · rw [Array.toArray_toList]
    exact e
end
end KT

namespace V2
open PySem PySem.Spec PyProof.Rows L2 KT
open PySem.W (Frag)
open TL (tl tl_append)
theorem PurseAt.mono {H : Hp} {a : Addr} {n m : Nat} (h : PurseAt H a n) (l : n ≤ m) : PurseAt H a m := by
  obtain ⟨p0, p1, p2, p3, e, h0, h1, h1', h2, h2', h3, h3'⟩ := h
  exact ⟨p0, p1, p2, p3, e, h0, h1, h1', h2, by omega, h3, h3'⟩
theorem PurseAt.upd {H : Hp} {a b : Addr} {n : Nat} {o : HO} (h : PurseAt H a n) (l : a ≠ b) : PurseAt (upd H b o) a n := by
  obtain ⟨p0, p1, p2, p3, e, r⟩ := h
  exact ⟨p0, p1, p2, p3, by rw [upd_ne l]; exact e, r⟩
theorem PurseAt.ne {H : Hp} {a b : Addr} {n : Nat} (h : PurseAt H a n) (e : H b = none) : a ≠ b := by
  obtain ⟨p0, p1, p2, p3, e', _⟩ := h
  exact ne_of_none e' e
theorem KeepBut.upd_new {a b : Addr} {H H' : Hp} {o : HO} (k : KeepBut a H H') (n : H b = none) : KeepBut a H (upd H' b o) := fun c u e hc => by
  rw [upd_ne (ne_of_none e n)]
  exact k c u e hc
theorem isW_bent {b : Str} {s c : Nat} (h : IsW b) (hs : s < b.length) (hc : 97 ≤ c ∧ c ≤ 122) : IsW (cutS b none (some (s : Int)) ++ (⟨#[c]⟩ : Str) ++ cutS b (some ((s : Int) + 1)) none) := by
  obtain ⟨h1, h2, h3⟩ := h
  have e1 : (cutS b none (some (s : Int))).cps.toList = b.cps.toList.take s := by
    unfold cutS
    rw [HT.sIx_nat, HT.sIx_none]
    have : min s b.length - 0 = s := by omega
    rw [this]
    simp
  have e2 : (cutS b (some ((s : Int) + 1)) none).cps.toList = b.cps.toList.drop (s + 1) := by
    unfold cutS
    have e : ((s : Int) + 1) = ((s + 1 : Nat) : Int) := by omega
    rw [e, HT.sIx_nat, HT.sIx_none]
    have : min (s + 1) b.length = s + 1 := by omega
    rw [this]
    have l : b.cps.toList.length = b.length := Array.length_toList
    show (List.take _ _).toArray.toList = _
    rw [List.take_of_length_le (by rw [List.length_drop, l]; exact Nat.le_refl _)]
  have et : (cutS b none (some (s : Int)) ++ (⟨#[c]⟩ : Str) ++ cutS b (some ((s : Int) + 1)) none).cps.toList = b.cps.toList.take s ++ [c] ++ b.cps.toList.drop (s + 1) := by
    show tl _ = _
    rw [tl_append, tl_append]
    show (cutS b none (some (s : Int))).cps.toList ++ [c] ++ (cutS b (some ((s : Int) + 1)) none).cps.toList = _
    rw [e1, e2]
  have l : b.cps.toList.length = b.length := Array.length_toList
  have el : (cutS b none (some (s : Int)) ++ (⟨#[c]⟩ : Str) ++ cutS b (some ((s : Int) + 1)) none).length = b.length := by
    have q := congrArg List.length et
    rw [List.length_append, List.length_append, List.length_take, List.length_drop, l, List.length_singleton] at q
    have q2 : (cutS b none (some (s : Int)) ++ (⟨#[c]⟩ : Str) ++ cutS b (some ((s : Int) + 1)) none).cps.toList.length = (cutS b none (some (s : Int)) ++ (⟨#[c]⟩ : Str) ++ cutS b (some ((s : Int) + 1)) none).length := Array.length_toList
    omega
  refine ⟨by omega, by omega, fun x hx => ?_⟩
  rw [et] at hx
  rcases List.mem_append.mp hx with hx | hx
  · rcases List.mem_append.mp hx with hx | hx
    · exact h3 x (List.mem_of_mem_take hx)
    · rw [List.mem_singleton.mp hx]
      exact hc
  · exact h3 x (List.mem_of_mem_drop hx)
theorem cutS_len (z : Str) (lo hi : Option Int) : (cutS z lo hi).length ≤ z.length := by
  have l : z.cps.toList.length = z.length := Array.length_toList
  have e : (cutS z lo hi).length = ((z.cps.toList.drop (HT.sIx z.length 0 lo)).take (HT.sIx z.length z.length hi - HT.sIx z.length 0 lo)).length := by
    unfold cutS Str.length
    rw [List.size_toArray]
  rw [e, List.length_take, List.length_drop]
  omega
theorem flat_map (zs : List Str) : (zs.map V.str).all flatV = true := by
  rw [List.all_eq_true]
  intro x hx
  obtain ⟨z, _, rfl⟩ := List.mem_map.mp hx
  rfl
theorem inV_str (z : Str) (zs : List Str) : inV (.str z) (zs.map V.str) = decide (z ∈ zs) := by
  unfold inV
  rw [List.any_map, Bool.eq_iff_iff, List.any_eq_true, decide_eq_true_eq]
  constructor
  · rintro ⟨x, hx, e⟩
    have e' : (x == z) = true := e
    rw [← eq_of_beq e']
    exact hx
  · intro h
    exact ⟨z, h, (show (z == z) = true from beq_self_eq_true z)⟩
section
variable {P : Program} {w : World} {K : Frag} {mg : Str → Option Value} {base : Heap}
def spWords : Sp := fun vs H Q _ => ∃ (a : Addr) (n : Nat) (many : Int), vs = [.ref a, .int many] ∧ PurseAt H a n ∧ n ≤ 800000000000 ∧ 1 ≤ many ∧ many ≤ 3 ∧
  ∀ (L : Addr) (zs : List Str) (H' : Hp), (∀ z ∈ zs, IsW z) → zs.Nodup → zs.length = many.toNat → KeepBut a H H' → H L = none → H' L = some (.lst (zs.map V.str)) → PurseAt H' a (n + 50) → Q (.ref L) H'
theorem nodup_len : ∀ (l D : List Str), l.Nodup → (∀ x ∈ l, x ∈ D) → l.length ≤ D.length
  | [], _, _, _ => Nat.zero_le _
  | x :: l, D, h, s => by
    obtain ⟨h1, h2⟩ := List.nodup_cons.mp h
    have hx := s x List.mem_cons_self
    have q := nodup_len l (D.erase x) h2 fun y hy => (List.mem_erase_of_ne (fun e => h1 (by rw [← e]; exact hy))).mpr (s y (List.mem_cons_of_mem _ hy))
    rw [List.length_erase_of_mem hx] at q
    have : 0 < D.length := List.length_pos_of_mem hx
    rw [List.length_cons]
    omega
def letters : List Str := (List.range 26).map fun j => (⟨#[97 + j]⟩ : Str)
theorem letters_nd : letters.Nodup := by decide +kernel
theorem abc_signs : signsV abc = letters.map V.str := by decide +kernel
theorem letters_w {y : Str} (h : y ∈ letters) : IsW y := by
  obtain ⟨j, hj, rfl⟩ := List.mem_map.mp h
  have := List.mem_range.mp hj
  refine ⟨by show 1 ≤ 1; omega, by show 1 ≤ 8; omega, fun c hc => ?_⟩
  have hc' : c ∈ [97 + j] := hc
  have := List.mem_singleton.mp hc'
  omega
/-- a letter that none of a few words is -/
theorem free_letter (zs : List Str) (h : zs.length ≤ 3) : ∃ y r, letters.filter (fun z => decide (z ∉ zs)) = y :: r := by
  cases e : letters.filter (fun z => decide (z ∉ zs)) with
  | cons y r => exact ⟨y, r, rfl⟩
  | nil =>
    have q := nodup_len letters zs letters_nd fun x hx => by
      refine Classical.byContradiction fun n => ?_
      have : x ∈ letters.filter (fun z => decide (z ∉ zs)) := List.mem_filter.mpr ⟨hx, decide_eq_true n⟩
      rw [e] at this
      cases this
    have : letters.length = 26 := by decide
    omega
theorem filter_snoc' {α : Type} (p : α → Bool) (l : List α) (i : Nat) (x : α) (h : l[i]? = some x) : (l.take (i + 1)).filter p = if p x then (l.take i).filter p ++ [x] else (l.take i).filter p := by
  rw [List.take_add_one, h, List.filter_append]
  by_cases c : p x <;> simp [c]
theorem nodup_snoc {zs : List Str} {y : Str} (h : zs.Nodup) (n : y ∉ zs) : (zs ++ [y]).Nodup := by
  rw [List.nodup_append]
  refine ⟨h, by simp, fun a ha b hb e => ?_⟩
  rw [List.mem_singleton.mp hb] at e
  exact n (e ▸ ha)
theorem ok_words {f fw fd_ fm : Addr} {fd fdw fdd fdm : FuncData} (T : Top K mg "_law_words" sLWords pLWords f fd) (TW : Top K mg "_law_word" sLWord ["purse"] fw fdw) (TD : Top K mg "_law_draw" sLDraw ["purse", "many"] fd_ fdd)
    (TM : Top K mg "_law_mixed" sLMixed ["seed", "spin", "at"] fm fdm) (B : Blt mg) : FnOk P w K mg base CX0 4 f fd pLWords spWords := by
  have GD : FnOk P w K mg base CX0 2 fd_ fdd ["purse", "many"] spDraw := ok_draw TD TM B
  have GW : FnOk P w K mg base CX0 3 fw fdw ["purse"] spWord := ok_word TW TD TM B
  refine T.F.ok scLWords (fun vs H Q E h => ?_) (fun cdv A outer s H vs Q E hr h => ?_)
  · obtain ⟨_, _, _, rfl, _⟩ := h
    rfl
  · obtain ⟨a, n, many, rfl, hp, hn, hm1, hm2, k⟩ := h
    have hr2 : Room 2 _ := hr.mono (by decide)
    refine ⟨_, (pss_cons (ps_par (i := 2) (j := 3) rfl scLWords.nd rfl rfl (by decide) rfl rfl (pa_cons (pe_call GW hr rfl TW.g TW.F.kp TW.b .nil pass0 (pa_cons (pv 0) pa_nil)) (pa_cons (pe_cmpR op_eq (pe_call GD hr2 rfl TD.g TD.F.kp TD.b .nil pass0 (pa_cons (pv 0) (pa_cons pe_int pa_nil))) pe_int (nomark _)) pa_nil)) (by rfl))
      (pss_cons (ps_asg (pe_tup (pa_cons (pe_call GD hr2 rfl TD.g TD.F.kp TD.b .nil pass0 (pa_cons (pv 0) (pa_cons (pe_callB call_len_str (by rfl) B.len PySem.boot_len (pa_cons (pv 2) pa_nil)) pa_nil))) (pa_cons (pe_lst pa_nil) pa_nil))) (pg_tup (by rfl) (pgs_cons (pg_name (i := 4) scLWords.nd rfl (Or.inl rfl)) (pgs_cons (pg_name (i := 5) scLWords.nd rfl (Or.inr rfl)) pgs_nil))))
      (pss_cons (ps_for PassesOwn.never rfl (pi_range1 (by rfl) B.range (pa_cons (pv 1) pa_nil)) (pg_name (i := 6) scLWords.nd rfl (Or.inl rfl))
        (pss_cons (ps_set (i := 7) scLWords.nd rfl (Or.inl rfl) (pe_op op_add_str (pe_op op_add_str (pe_slice sl_str (pv 2) po_none (po_some (pv 4))) (pe_ix ix_str pe_str (pe_call GD hr2 rfl TD.g TD.F.kp TD.b .nil pass0 (pa_cons (pv 0) (pa_cons pe_int pa_nil))) (fun _ _ => rfl))) (pe_slice sl_str (pv 2) (po_some (pe_op op_add (pv 4) pe_int)) po_none)))
      (pss_cons (ps_if (pt_not (pt_val (pv 3))) (pss_one (ps_set (i := 7) scLWords.nd rfl (Or.inl rfl) (pe_call GW hr rfl TW.g TW.F.kp TW.b .nil pass0 (pa_cons (pv 0) pa_nil)))) pss_nil)
      (pss_cons (ps_if (pt_cmpR op_in_seq (pv 7) (pv 5) (by rfl))
            (pss_one (ps_set (i := 7) scLWords.nd rfl (Or.inl rfl) (pe_ix ix_list (pe_lc (own := [("letter", 8)]) (g := gName 8) rfl scLWords.nd (pi_list (pe_callTy (call_listS rfl) (by rfl) B.list (by decide +kernel) (pa_cons pe_str pa_nil))) (blkOk_by (N := nLWords) (sc := defScope sLWords) (by decide +kernel)) (fun _ _ _ _ _ => pg_name (i := 8) scLWords.nd rfl (Or.inl rfl)) (fun _ _ _ _ _ => pts_one (pt_cmpR (show OpR _ _ (rIn K true) from op_notIn_seq) (pv 8) (pv 5) (by rfl))) (fun _ _ _ _ _ => (pv 8))) pe_int (fun _ _ => rfl)))) pss_nil)
      (pss_one (ps_expr (pe_bm PySem.F.plainAttrs_list PySem.F.slot_list_append PySem.F.type_list_append mt_append (pv 5) (pa_cons (pv 7) pa_nil))))))))
      (pss_one (ps_ret (pv 5)))))), ?_⟩
    refine ⟨_, rfl, a, n, rfl, hp, by omega, fun b H1 hb kb1 hp1 => ?_⟩
    obtain ⟨b1, b2, b3⟩ := id hb
    refine ⟨_, rfl, a, n + 10, 3, rfl, hp1, by omega, by decide, by decide, fun d2 H2 c0 c1 off2 hp2 => ⟨rfl, _, _, rfl, ?_⟩⟩
    have kb2 : KeepBut a H H2 := kb1.trans (.of_off off2)
    refine ⟨_, rfl, _, rfl, _, rfl, by rw [sizeLine_eq]; omega, a, n + 11, _, rfl, hp2, by omega, by omega, by omega, fun s0 H3 e0 e1 off3 hp3 => ?_⟩
    have kb3 : KeepBut a H H3 := kb2.trans (.of_off off3)
    obtain ⟨s, rfl⟩ := Int.eq_ofNat_of_zero_le e0
    refine ⟨by show 0 ≤ sizeLine; exact Nat.zero_le _, fun L hL => ⟨by show 2 ≤ sizeLine; rw [sizeLine_eq]; omega, fun T hT => ?_⟩⟩
    have nLa : a ≠ L := hp3.ne hL
    have nHL : H L = none := kb3.free hL nLa.symm
    have nLT : L ≠ T := ne_of_none upd_same hT
    have nT : H3 T = none := by
      rw [upd_ne nLT.symm] at hT
      exact hT
    have nHT : H T = none := kb3.free nT (hp3.ne nT).symm
    have hp4 := (hp3.upd (o := .lst []) nLa).upd (b := T) (o := .tup [.int (s : Nat), .ref L]) (hp3.ne nT)
    have kb4 : KeepBut a H (upd (upd H3 L (.lst [])) T (.tup [.int (s : Nat), .ref L])) := (kb3.upd_new nHL).upd_new nHT
    refine ⟨T, _, rfl, SqT.of upd_same, rfl, _, _, rfl, _, _, rfl, rfl, ?_⟩
    refine ⟨_, rfl, many, rfl, by omega, by omega, ?_⟩
    refine for_range (lo := 0) (n := many.toNat) (fun i σ H' => ∃ (v6 v7 v8 : Option V) (zs : List Str), σ = [some (.ref a), some (.int many), some (.str b), some (.bl (decide (V.int d2 = V.int 0))), some (.int (s : Nat)), some (.ref L), v6, v7, v8] ∧ (∀ z ∈ zs, IsW z) ∧ zs.Nodup ∧ zs.length = i ∧ KeepBut a H H' ∧ H' L = some (.lst (zs.map V.str)) ∧ PurseAt H' a (n + 12 + 11 * i))
      ⟨none, none, none, [], rfl, fun z hz => absurd hz (by simp), List.nodup_nil, rfl, kb4, by rw [upd_ne nLT, upd_same]; rfl, hp4.mono (by omega)⟩ ?_ ?_
    · rintro i σ H' hi ⟨v6, v7, v8, zs, rfl, hzs, nd, hl, kb', eL', hp'⟩
      have hi3 : i < 3 := by omega
      refine ⟨_, rfl, _, rfl, _, rfl, b, rfl, by rw [sizeLine_eq]; omega, _, rfl, a, _, 26, rfl, hp', by omega, by decide, by decide, fun d5 H5 g0 g1 off5 hp5 => ?_⟩
      obtain ⟨j, rfl⟩ := Int.eq_ofNat_of_zero_le g0
      have hj : j < 26 := by omega
      have eL5 : H5 L = some (.lst (zs.map V.str)) := by rw [off5 L nLa.symm]; exact eL'
      have kb5 : KeepBut a H H5 := kb'.trans (.of_off off5)
      have lc1 := cutS_len b none (some (s : Int))
      have lc2 := cutS_len b (some ((s : Int) + 1)) none
      have hz : IsW (cutS b none (some (s : Int)) ++ (⟨#[97 + j]⟩ : Str) ++ cutS b (some ((s : Int) + 1)) none) := isW_bent hb (by omega) (by omega)
      refine ⟨abc, _, _, rfl, rfl, by decide, atI_nat (abc_at j hj), _, _, rfl, rfl, by rw [sizeLine_eq]; show _ + 1 ≤ _; omega, ?_⟩
      refine ⟨_, rfl, _, rfl, _, _, rfl, rfl, _, rfl, b, rfl, by rw [sizeLine_eq]; omega, _, _, rfl, rfl, by rw [sizeLine_eq, strLen_append]; show _ + 1 + _ ≤ _; omega, ?_⟩
      generalize decide (V.int d2 = V.int 0) = nb
      cases nb with
      | false =>
        refine ⟨_, rfl, _, rfl, iteT ⟨_, rfl, a, _, rfl, hp5, by omega, fun z H6 hz6 kb56 hp6 => ?_⟩⟩
        have hz := hz6
        have kb6 : KeepBut a H H6 := kb5.trans kb56
        have eL3 : H6 L = some (.lst (zs.map V.str)) := kb56 _ _ eL5 nLa.symm
        have hp7 : PurseAt H6 a (n + 12 + 11 * (i + 1)) := hp6.mono (by omega)
        refine ⟨_, rfl, _, rfl, L, _, rfl, .inl (SqL.of eL3), rfl, flat_map zs, _, rfl, ?_⟩
        rw [inV_str]
        refine ite2 (fun hin => ?_) (fun hin => ?_)
        · refine ⟨abc, rfl, by rw [sizeLine_eq]; decide, fun p hpn => ⟨p, rfl, ⟨_, SqL.of upd_same⟩, fun D hD => ?_⟩⟩
          have nLp : L ≠ p := ne_of_none eL3 hpn
          have npD : p ≠ D := ne_of_none upd_same hD
          have nLD : L ≠ D := ne_of_none (show upd _ p _ L = _ by rw [upd_ne nLp]; exact eL3) hD
          have nap := hp7.ne hpn
          have naD := (hp7.upd (o := .lst (signsV abc)) nap).ne hD
          refine lc_list (K := K) (xs := signsV abc) (fun i H' => H' = upd (upd H6 p (.lst (signsV abc))) D (.lst (((letters.take i).filter fun z => decide (z ∉ zs)).map V.str))) rfl ?_ ?_ ?_
          · rintro i H' hi rfl
            exact SqL.of (by rw [upd_ne npD, upd_same])
          · rintro i x H' hx rfl
            rw [abc_signs, List.getElem?_map] at hx
            obtain ⟨y, hy, rfl⟩ := Option.map_eq_some_iff.mp hx
            refine ⟨rfl, _, rfl, _, rfl, L, _, rfl, .inl (SqL.of (by rw [upd_ne nLD, upd_ne nLp]; exact eL3)), rfl, flat_map zs, _, rfl, ?_⟩
            rw [inV_str, filter_snoc' _ _ _ _ hy]
            by_cases c : y ∈ zs
            · rw [decide_eq_true c, decide_eq_false (not_not_intro c)]
              exact iteF rfl
            · rw [decide_eq_false c, decide_eq_true c]
              refine iteT ⟨_, rfl, _, upd_same, ?_, ?_⟩
              · rw [List.length_map, sizeLine_eq]
                have := List.length_filter_le (fun z => decide (z ∉ zs)) (letters.take i)
                have l26 : letters.length = 26 := by decide
                rw [List.length_take, l26] at this
                omega
              · rw [upd_upd, if_pos rfl, List.map_append]
                rfl
          · rintro H' rfl
            obtain ⟨y, r, hy⟩ := free_letter zs (by omega)
            have l26 : (signsV abc).length = letters.length := by rw [abc_signs, List.length_map]
            rw [l26, List.take_length, hy]
            have hm : y ∈ letters.filter (fun z => decide (z ∉ zs)) := by rw [hy]; exact List.mem_cons_self
            obtain ⟨hm1, hm2⟩ := List.mem_filter.mp hm
            have ny : y ∉ zs := of_decide_eq_true hm2
            have eL7 : upd (upd H6 p (.lst (signsV abc))) D (.lst ((y :: r).map V.str)) L = some (.lst (zs.map V.str)) := by rw [upd_ne nLD, upd_ne nLp]; exact eL3
            refine ⟨D, _, _, _, rfl, rfl, SqL.of upd_same, atI_nat (j := 0) rfl, ?_⟩
            refine ⟨_, rfl, .inl ⟨rfl, _, SqL.of eL7⟩, _, rfl, L, _, _, rfl, rfl, eL7, by rw [List.length_map, sizeLine_eq]; omega, ?_⟩
            refine ⟨_, _, _, zs ++ [y], rfl, fun z hz' => (List.mem_append.mp hz').elim (hzs z) fun q => (List.mem_singleton.mp q) ▸ letters_w hm1, nodup_snoc nd ny, by rw [List.length_append, hl]; rfl, ?_, by rw [upd_same, List.map_append]; rfl, ?_⟩
            · exact ((kb6.upd_new (kb6.free hpn nap.symm)).upd_new (kb6.free (by rw [upd_ne npD.symm] at hD; exact hD) naD.symm)).upd_new nHL
            · exact (((hp7.upd nap).upd naD).upd nLa).mono (Nat.le_refl _)
        · refine ⟨_, rfl, .inl ⟨rfl, _, SqL.of eL3⟩, _, rfl, L, _, _, rfl, rfl, eL3, by rw [List.length_map, sizeLine_eq]; omega, ?_⟩
          refine ⟨_, _, _, zs ++ [_], rfl, fun z hz' => (List.mem_append.mp hz').elim (hzs z) fun q => (List.mem_singleton.mp q) ▸ hz, nodup_snoc nd (of_decide_eq_false (by simpa using hin)), by rw [List.length_append, hl]; rfl, kb6.upd_new nHL, by rw [upd_same, List.map_append]; rfl, hp7.upd nLa⟩
      | true =>
        have kb6 := kb5
        have eL3 := eL5
        have hp7 : PurseAt H5 a (n + 12 + 11 * (i + 1)) := hp5.mono (by omega)
        refine ⟨_, rfl, _, rfl, iteF ?_⟩
        refine ⟨_, rfl, _, rfl, L, _, rfl, .inl (SqL.of eL3), rfl, flat_map zs, _, rfl, ?_⟩
        rw [inV_str]
        refine ite2 (fun hin => ?_) (fun hin => ?_)
        · refine ⟨abc, rfl, by rw [sizeLine_eq]; decide, fun p hpn => ⟨p, rfl, ⟨_, SqL.of upd_same⟩, fun D hD => ?_⟩⟩
          have nLp : L ≠ p := ne_of_none eL3 hpn
          have npD : p ≠ D := ne_of_none upd_same hD
          have nLD : L ≠ D := ne_of_none (show upd _ p _ L = _ by rw [upd_ne nLp]; exact eL3) hD
          have nap := hp7.ne hpn
          have naD := (hp7.upd (o := .lst (signsV abc)) nap).ne hD
          refine lc_list (K := K) (xs := signsV abc) (fun i H' => H' = upd (upd H5 p (.lst (signsV abc))) D (.lst (((letters.take i).filter fun z => decide (z ∉ zs)).map V.str))) rfl ?_ ?_ ?_
          · rintro i H' hi rfl
            exact SqL.of (by rw [upd_ne npD, upd_same])
          · rintro i x H' hx rfl
            rw [abc_signs, List.getElem?_map] at hx
            obtain ⟨y, hy, rfl⟩ := Option.map_eq_some_iff.mp hx
            refine ⟨rfl, _, rfl, _, rfl, L, _, rfl, .inl (SqL.of (by rw [upd_ne nLD, upd_ne nLp]; exact eL3)), rfl, flat_map zs, _, rfl, ?_⟩
            rw [inV_str, filter_snoc' _ _ _ _ hy]
            by_cases c : y ∈ zs
            · rw [decide_eq_true c, decide_eq_false (not_not_intro c)]
              exact iteF rfl
            · rw [decide_eq_false c, decide_eq_true c]
              refine iteT ⟨_, rfl, _, upd_same, ?_, ?_⟩
              · rw [List.length_map, sizeLine_eq]
                have := List.length_filter_le (fun z => decide (z ∉ zs)) (letters.take i)
                have l26 : letters.length = 26 := by decide
                rw [List.length_take, l26] at this
                omega
              · rw [upd_upd, if_pos rfl, List.map_append]
                rfl
          · rintro H' rfl
            obtain ⟨y, r, hy⟩ := free_letter zs (by omega)
            have l26 : (signsV abc).length = letters.length := by rw [abc_signs, List.length_map]
            rw [l26, List.take_length, hy]
            have hm : y ∈ letters.filter (fun z => decide (z ∉ zs)) := by rw [hy]; exact List.mem_cons_self
            obtain ⟨hm1, hm2⟩ := List.mem_filter.mp hm
            have ny : y ∉ zs := of_decide_eq_true hm2
            have eL7 : upd (upd H5 p (.lst (signsV abc))) D (.lst ((y :: r).map V.str)) L = some (.lst (zs.map V.str)) := by rw [upd_ne nLD, upd_ne nLp]; exact eL3
            refine ⟨D, _, _, _, rfl, rfl, SqL.of upd_same, atI_nat (j := 0) rfl, ?_⟩
            refine ⟨_, rfl, .inl ⟨rfl, _, SqL.of eL7⟩, _, rfl, L, _, _, rfl, rfl, eL7, by rw [List.length_map, sizeLine_eq]; omega, ?_⟩
            refine ⟨_, _, _, zs ++ [y], rfl, fun z hz' => (List.mem_append.mp hz').elim (hzs z) fun q => (List.mem_singleton.mp q) ▸ letters_w hm1, nodup_snoc nd ny, by rw [List.length_append, hl]; rfl, ?_, by rw [upd_same, List.map_append]; rfl, ?_⟩
            · exact ((kb6.upd_new (kb6.free hpn nap.symm)).upd_new (kb6.free (by rw [upd_ne npD.symm] at hD; exact hD) naD.symm)).upd_new nHL
            · exact (((hp7.upd nap).upd naD).upd nLa).mono (Nat.le_refl _)
        · refine ⟨_, rfl, .inl ⟨rfl, _, SqL.of eL3⟩, _, rfl, L, _, _, rfl, rfl, eL3, by rw [List.length_map, sizeLine_eq]; omega, ?_⟩
          refine ⟨_, _, _, zs ++ [_], rfl, fun z hz' => (List.mem_append.mp hz').elim (hzs z) fun q => (List.mem_singleton.mp q) ▸ hz, nodup_snoc nd (of_decide_eq_false (by simpa using hin)), by rw [List.length_append, hl]; rfl, kb6.upd_new nHL, by rw [upd_same, List.map_append]; rfl, hp7.upd nLa⟩
    · rintro σ H' ⟨v6, v7, v8, zs, rfl, hzs, nd, hl, kb', eL', hp'⟩
      exact ⟨_, rfl, k L zs H' hzs nd hl kb' nHL eL' (hp'.mono (by omega))⟩
end
end V2

namespace V2
open PySem PySem.Spec PyProof.Rows L2 KT
open PySem.W (Frag)
structure Plains (zs : List Str) : Prop where
  so : sortedS zs = true
  nd : zs.Nodup
  w : ∀ z ∈ zs, IsW z
  l1 : 1 ≤ zs.length
  l3 : zs.length ≤ 3
def isWB (z : Str) : Bool := decide (1 ≤ z.length) && decide (z.length ≤ 8) && z.cps.toList.all fun c => decide (97 ≤ c) && decide (c ≤ 122)
theorem isWB_ok {z : Str} (h : isWB z = true) : IsW z := by
  unfold isWB at h
  simp only [Bool.and_eq_true, decide_eq_true_eq, List.all_eq_true] at h
  exact ⟨h.1.1, h.1.2, h.2⟩
def plainsB (zs : List Str) : Bool := sortedS zs && decide zs.Nodup && zs.all isWB && decide (1 ≤ zs.length) && decide (zs.length ≤ 3)
theorem plainsB_ok {zs : List Str} (h : plainsB zs = true) : Plains zs := by
  unfold plainsB at h
  simp only [Bool.and_eq_true, decide_eq_true_eq, List.all_eq_true] at h
  exact ⟨h.1.1.1.1, h.1.1.1.2, fun z hz => isWB_ok (h.1.1.2 z hz), h.1.2, h.2⟩
def odds : List (List Str) := [["cut", "is", "then"], ["athens", "over", "then"], ["end", "over", "under"], ["back", "is", "on"]]
theorem odds_ok : (odds.all fun zs => [1, 2, 3].all fun m => plainsB (zs.take m)) = true := by decide +kernel
section
variable {P : Program} {w : World} {K : Frag} {mg : Str → Option Value} {base : Heap}
def spPlains : Sp := fun vs H Q _ => ∃ (a : Addr) (n : Nat) (most : Int), vs = [.ref a, .int most] ∧ PurseAt H a n ∧ n ≤ 700000000000 ∧ 1 ≤ most ∧ most ≤ 3 ∧
  ∀ (L : Addr) (zs : List Str) (H' : Hp), Plains zs → (zs.length : Int) ≤ most → KeepBut a H H' → H L = none → H' L = some (.lst (zs.map V.str)) → PurseAt H' a (n + 60) → Q (.ref L) H'
/-- what the draws stand upon -/
structure TDs (K : Frag) (mg : Str → Option Value) (fd_ fm fw fws fo : Addr) (fdd fdm fdw fdws fdo : FuncData) : Prop where
  TD : Top K mg "_law_draw" sLDraw ["purse", "many"] fd_ fdd
  TM : Top K mg "_law_mixed" sLMixed ["seed", "spin", "at"] fm fdm
  TW : Top K mg "_law_word" sLWord ["purse"] fw fdw
  TWs : Top K mg "_law_words" sLWords pLWords fws fdws
  TO : Top K mg "_law_one_of" sLOneOf ["purse", "some"] fo fdo
  B : Blt mg
theorem ok_plains {f fd_ fm fw fws fo : Addr} {fd fdd fdm fdw fdws fdo : FuncData} (T : Top K mg "_law_plains" sLPlains pLPlains f fd) (U : TDs K mg fd_ fm fw fws fo fdd fdm fdw fdws fdo) : FnOk P w K mg base CX0 5 f fd pLPlains spPlains := by
  have B := U.B
  have TD := U.TD
  have TO := U.TO
  have TWs := U.TWs
  have GD : FnOk P w K mg base CX0 2 fd_ fdd ["purse", "many"] spDraw := ok_draw U.TD U.TM U.B
  have GO : FnOk P w K mg base CX0 3 fo fdo ["purse", "some"] spOneOf := ok_oneOf U.TO U.TD U.TM U.B
  have GW : FnOk P w K mg base CX0 4 fws fdws pLWords spWords := ok_words U.TWs U.TW U.TD U.TM U.B
  refine T.F.ok scLPlains (fun vs H Q E h => ?_) (fun cdv A outer s H vs Q E hr h => ?_)
  · obtain ⟨_, _, _, rfl, _⟩ := h
    rfl
  · obtain ⟨a, n, most, rfl, hp, hn, hm1, hm2, k⟩ := h
    have hr2 : Room 2 _ := hr.mono (by decide)
    have hr3 : Room 3 _ := hr.mono (by decide)
    refine ⟨_, (pss_cons (ps_if (pt_cmpR op_eq (pe_call GD hr2 rfl TD.g TD.F.kp TD.b .nil pass0 (pa_cons (pv 0) (pa_cons pe_int pa_nil))) pe_int (nomark _))
        (pss_one (ps_ret (pe_slice sl_list (pe_call GO hr3 rfl TO.g TO.F.kp TO.b .nil pass0 (pa_cons (pv 0) (pa_cons (pe_lst (pa_cons (pe_lst (pa_cons pe_str (pa_cons pe_str (pa_cons pe_str pa_nil)))) (pa_cons (pe_lst (pa_cons pe_str (pa_cons pe_str (pa_cons pe_str pa_nil)))) (pa_cons (pe_lst (pa_cons pe_str (pa_cons pe_str (pa_cons pe_str pa_nil)))) (pa_cons (pe_lst (pa_cons pe_str (pa_cons pe_str (pa_cons pe_str pa_nil)))) pa_nil))))) pa_nil))) po_none (po_some (pv 1))))) pss_nil)
      (pss_one (ps_ret (pe_callB cr_sortedS (by rfl) B.sorted (by decide +kernel) (pa_cons (pe_call GW hr rfl TWs.g TWs.F.kp TWs.b .nil pass0 (pa_cons (pv 0) (pa_cons (pe_op op_add pe_int (pe_call GD hr2 rfl TD.g TD.F.kp TD.b .nil pass0 (pa_cons (pv 0) (pa_cons (pv 1) pa_nil)))) pa_nil))) pa_nil))))), ?_⟩
    refine ⟨_, rfl, a, n, 8, rfl, hp, by omega, by decide, by decide, fun d H1 c0 c1 off1 hp1 => ⟨rfl, _, rfl, ite2 (fun _ => ?_) (fun _ => ?_)⟩⟩
    · have l3 : 3 ≤ sizeLine := by rw [sizeLine_eq]; omega
      have l4 : 4 ≤ sizeLine := by rw [sizeLine_eq]; omega
      have kb1 : KeepBut a H H1 := .of_off off1
      refine ⟨_, rfl, l3, fun p1 n1 => ⟨l3, fun p2 n2 => ⟨l3, fun p3 n3 => ⟨l3, fun p4 n4 => ⟨l4, fun p5 n5 => ?_⟩⟩⟩⟩⟩
      have q1 := hp1.upd (o := .lst [.str "cut", .str "is", .str "then"]) (hp1.ne n1)
      have q2 := q1.upd (o := .lst [.str "athens", .str "over", .str "then"]) (q1.ne n2)
      have q3 := q2.upd (o := .lst [.str "end", .str "over", .str "under"]) (q2.ne n3)
      have q4 := q3.upd (o := .lst [.str "back", .str "is", .str "on"]) (q3.ne n4)
      have q5 := q4.upd (o := .lst [.ref p1, .ref p2, .ref p3, .ref p4]) (q4.ne n5)
      have s2 := same_upd (o := .lst [.str "athens", .str "over", .str "then"]) n2
      have s3 := same_upd (o := .lst [.str "end", .str "over", .str "under"]) n3
      have s4 := same_upd (o := .lst [.str "back", .str "is", .str "on"]) n4
      have s5 := same_upd (o := .lst [.ref p1, .ref p2, .ref p3, .ref p4]) n5
      have sa := (((same_upd (o := .lst [.str "cut", .str "is", .str "then"]) n1).trans s2).trans s3).trans (s4.trans s5)
      refine ⟨a, p5, n + 1, _, rfl, q5, by omega, (q4.ne n5).symm, upd_same, by show 1 ≤ 4; omega, by show 4 < 1048576; omega, fun i x H7 hx off7 hp7 => ?_⟩
      have kb7 : KeepBut a H H7 := (kb1.trans (.of_same sa)).trans (.of_off off7)
      have fin : ∀ (pi : Addr) (zs : List Str), zs ∈ odds → pi ≠ a → H7 pi = some (.lst (zs.map V.str)) → x = .ref pi →
          tPart (tVar 1) [some (.ref a), some (.int most)] H7 fun u H3 => rSlL K x none u H3 Q := by
        rintro pi zs hz npa e rfl
        refine ⟨_, rfl, most, rfl, pi, _, rfl, SqL.of e, fun q nq => ?_⟩
        obtain ⟨m, rfl⟩ := Int.eq_ofNat_of_zero_le (show 0 ≤ most by omega)
        have hm : m = 1 ∨ m = 2 ∨ m = 3 := by omega
        have l3 : zs.length = 3 := by
          simp [odds] at hz
          rcases hz with rfl | rfl | rfl | rfl <;> rfl
        have ec : cutV (zs.map V.str) none (some (m : Int)) = (zs.take m).map V.str := by
          unfold cutV
          rw [HT.sIx_nat, HT.sIx_none, List.length_map, l3, List.map_take]
          have : min m 3 - 0 = m := by omega
          rw [this]
          rfl
        rw [ec]
        have hpl : Plains (zs.take m) := by
          have q := List.all_eq_true.mp odds_ok zs hz
          rw [List.all_eq_true] at q
          exact plainsB_ok (q m (by rcases hm with rfl | rfl | rfl <;> simp))
        exact k q _ _ hpl (by rw [List.length_take]; omega) (kb7.upd_new (kb7.free nq (hp7.ne nq).symm)) (kb7.free nq (hp7.ne nq).symm) upd_same ((hp7.upd (hp7.ne nq)).mono (by omega))
      have na1 := (hp1.ne n1).symm
      have na2 := (q1.ne n2).symm
      have na3 := (q2.ne n3).symm
      have na4 := (q3.ne n4).symm
      match i, hx with
      | 0, hx =>
        refine fin p1 ["cut", "is", "then"] (by simp [odds]) na1 ?_ (Option.some.inj hx).symm
        rw [off7 p1 na1]
        exact ((s2.trans s3).trans (s4.trans s5)) _ _ upd_same
      | 1, hx =>
        refine fin p2 ["athens", "over", "then"] (by simp [odds]) na2 ?_ (Option.some.inj hx).symm
        rw [off7 p2 na2]
        exact (s3.trans (s4.trans s5)) _ _ upd_same
      | 2, hx =>
        refine fin p3 ["end", "over", "under"] (by simp [odds]) na3 ?_ (Option.some.inj hx).symm
        rw [off7 p3 na3]
        exact (s4.trans s5) _ _ upd_same
      | 3, hx =>
        refine fin p4 ["back", "is", "on"] (by simp [odds]) na4 ?_ (Option.some.inj hx).symm
        rw [off7 p4 na4]
        exact s5 _ _ upd_same
      | i + 4, hx => exact absurd hx (by simp)
    · have kb1 : KeepBut a H H1 := .of_off off1
      refine ⟨_, rfl, _, rfl, _, rfl, a, n + 1, most, rfl, hp1, by omega, hm1, by omega, fun d2 H2 e0 e1 off2 hp2 => ?_⟩
      refine ⟨_, _, rfl, rfl, a, n + 2, _, rfl, hp2, by omega, by omega, by omega, fun L zs H3 hw nd hl kb3 nL eL hp3 => ?_⟩
      refine ⟨L, zs, rfl, SqL.of eL, by omega, fun ys p pm so hpn => ?_⟩
      have kb : KeepBut a H H3 := (kb1.trans (.of_off off2)).trans kb3
      refine k p ys _ ⟨so, pm.nodup_iff.mpr nd, fun z hz => hw z (pm.mem_iff.mp hz), by rw [pm.length_eq]; omega, by rw [pm.length_eq]; omega⟩ (by rw [pm.length_eq]; omega) ?_ (kb.free hpn (hp3.ne hpn).symm) upd_same ((hp3.upd (hp3.ne hpn)).mono (by omega))
      exact kb.upd_new (kb.free hpn (hp3.ne hpn).symm)
end
end V2

namespace V2
open PySem PySem.Spec PyProof.Rows L2 KT
open PySem.W (Frag)
def Ty.words : Ty → List Str
  | .w z => [z]
  | .n _ a b => a.words ++ b.words
theorem TK.of_keepBut {a : Addr} {n : Nat} {H H' : Hp} (k : KeepBut a H H') (p : PurseAt H a n) : TK H H' := fun q xs e => k q _ e fun z => by
  obtain ⟨_, _, _, _, e', _⟩ := p
  rw [z, e'] at e
  cases e
section
variable {P : Program} {w : World} {K : Frag} {mg : Str → Option Value} {base : Heap}
def spKind (d : Nat) : Sp := fun vs H Q _ => ∃ (a L : Addr) (n m : Nat) (zs : List Str), vs = [.ref a, .ref L, .int m] ∧ PurseAt H a n ∧ n + 3 * m ≤ 600000000000 ∧ L ≠ a ∧ H L = some (.lst (zs.map V.str)) ∧ Plains zs ∧ m ≤ d ∧
  ∀ (x : V) (t : Ty) (H' : Hp), TyAt H' x t → t.signs = m → (∀ z ∈ t.words, z ∈ zs) → KeepBut a H H' → PurseAt H' a (n + 3 * m + 1) → Q x H'

theorem ok_kind {f fd_ fm fw fws fo : Addr} {fd fdd fdm fdw fdws fdo : FuncData} (T : Top K mg "_law_kind" sLKind pLKind f fd) (U : TDs K mg fd_ fm fw fws fo fdd fdm fdw fdws fdo) : ∀ d : Nat, d ≤ 30 → FnOk P w K mg base CX0 (4 + d) f fd pLKind (spKind d)
  | 0, _ => by
    have B := U.B
    have TO := U.TO
    have GO : FnOk P w K mg base CX0 3 fo fdo ["purse", "some"] spOneOf := ok_oneOf U.TO U.TD U.TM U.B
    refine T.F.ok scLKind (fun vs H Q E h => ?_) (fun cdv A outer s H vs Q E hr h => ?_)
    · obtain ⟨_, _, _, _, _, rfl, _⟩ := h
      rfl
    · obtain ⟨a, L, n, m, zs, rfl, hp, hn, nLa, eL, hz, hm, k⟩ := h
      obtain rfl : m = 0 := by omega
      refine ⟨_, pss_cons (ps_if (pt_cmpR op_eq (pv 2) pe_int (nomark _)) (pss_one (ps_ret (pe_call GO hr rfl TO.g TO.F.kp TO.b .nil pass0 (pa_cons (pv 0) (pa_cons (pv 1) pa_nil))))) pss_nil) pss_never, ?_⟩
      have l1 := hz.l1
      have l3 := hz.l3
      refine ⟨_, rfl, rfl, true, rfl, iteT ⟨_, rfl, _, rfl, a, L, n, _, rfl, hp, by omega, nLa, eL, by rw [List.length_map]; exact hz.l1, by rw [List.length_map]; omega, fun i x H' hx off hp' => ?_⟩⟩
      rw [List.getElem?_map] at hx
      obtain ⟨z, hzi, rfl⟩ := Option.map_eq_some_iff.mp hx
      exact k _ (.w z) H' (.w (hz.w z (List.mem_of_getElem? hzi))) rfl (fun y hy => by rw [List.mem_singleton.mp hy]; exact List.mem_of_getElem? hzi) (.of_off off) hp'
  | d + 1, hd => by
    have B := U.B
    have TO := U.TO
    have TD := U.TD
    have GD : FnOk P w K mg base CX0 2 fd_ fdd ["purse", "many"] spDraw := ok_draw U.TD U.TM U.B
    have GO : FnOk P w K mg base CX0 3 fo fdo ["purse", "some"] spOneOf := ok_oneOf U.TO U.TD U.TM U.B
    have GK : FnOk P w K mg base CX0 (4 + d) f fd pLKind (spKind d) := ok_kind T U d (by omega)
    refine T.F.ok (k := 4 + d) scLKind (fun vs H Q E h => ?_) (fun cdv A outer s H vs Q E hr h => ?_)
    · obtain ⟨_, _, _, _, _, rfl, _⟩ := h
      rfl
    · obtain ⟨a, L, n, m, zs, rfl, hp, hn, nLa, eL, hz, hm, k⟩ := h
      have hr3 : Room 3 _ := hr.mono (by omega)
      have hr2 : Room 2 _ := hr.mono (by omega)
      refine ⟨_, (pss_cons (ps_if (pt_cmpR op_eq (pv 2) pe_int (nomark _)) (pss_one (ps_ret (pe_call GO hr3 rfl TO.g TO.F.kp TO.b .nil pass0 (pa_cons (pv 0) (pa_cons (pv 1) pa_nil))))) pss_nil)
      (pss_cons (ps_set (i := 3) scLKind.nd rfl (Or.inl rfl) (pe_call GD hr2 rfl TD.g TD.F.kp TD.b .nil pass0 (pa_cons (pv 0) (pa_cons (pv 2) pa_nil))))
      (pss_cons (ps_par (i := 4) (j := 5) rfl scLKind.nd rfl rfl (by decide) rfl rfl (pa_cons (pe_call GK hr rfl T.g T.F.kp T.b .nil pass0 (pa_cons (pv 0) (pa_cons (pv 1) (pa_cons (pv 3) pa_nil)))) (pa_cons (pe_call GK hr rfl T.g T.F.kp T.b .nil pass0 (pa_cons (pv 0) (pa_cons (pv 1) (pa_cons (pe_op op_sub (pe_op op_sub (pv 2) pe_int) (pv 3)) pa_nil)))) pa_nil)) (by rfl))
      (pss_one (ps_ret (pe_tup (pa_cons (pe_call GO hr3 rfl TO.g TO.F.kp TO.b .nil pass0 (pa_cons (pv 0) (pa_cons (pe_lst (pa_cons pe_str (pa_cons pe_str (pa_cons pe_str (pa_cons pe_str (pa_cons pe_str pa_nil)))))) pa_nil))) (pa_cons (pv 4) (pa_cons (pv 5) pa_nil))))))))), ?_⟩
      have l1 := hz.l1
      have l3 := hz.l3
      refine ⟨_, rfl, rfl, _, rfl, ite2 (fun c => ?_) (fun c => ?_)⟩
      · have e0 : (V.int (m : Int)) = V.int 0 := of_decide_eq_true c
        obtain rfl : m = 0 := by
          injection e0 with e0
          omega
        refine ⟨_, rfl, _, rfl, a, L, n, _, rfl, hp, by omega, nLa, eL, by rw [List.length_map]; exact hz.l1, by rw [List.length_map]; omega, fun i x H' hx off hp' => ?_⟩
        rw [List.getElem?_map] at hx
        obtain ⟨z, hzi, rfl⟩ := Option.map_eq_some_iff.mp hx
        exact k _ (.w z) H' (.w (hz.w z (List.mem_of_getElem? hzi))) rfl (fun y hy => by rw [List.mem_singleton.mp hy]; exact List.mem_of_getElem? hzi) (.of_off off) hp'
      · have hm0 : m ≠ 0 := fun e => c (by rw [e]; rfl)
        refine ⟨_, rfl, _, rfl, a, n, m, rfl, hp, by omega, by omega, by omega, fun d0 H1 c0 c1 off1 hp1 => ?_⟩
        obtain ⟨j, rfl⟩ := Int.eq_ofNat_of_zero_le c0
        have hj : j < m := by omega
        have kb1 : KeepBut a H H1 := .of_off off1
        refine ⟨_, rfl, _, rfl, _, rfl, a, L, n + 1, j, zs, rfl, hp1, by omega, nLa, by rw [off1 L nLa]; exact eL, hz, by omega, fun x1 t1 H2 ht1 hs1 hw1 kb2 hp2 => ?_⟩
        refine ⟨_, rfl, _, rfl, _, rfl, _, _, rfl, rfl, _, rfl, _, _, rfl, rfl, ?_⟩
        have em : (m : Int) - 1 - (j : Int) = ((m - 1 - j : Nat) : Int) := by omega
        refine ⟨a, L, n + 1 + 3 * j + 1, m - 1 - j, zs, congrArg (fun e => [V.ref a, V.ref L, V.int e]) em, hp2, by omega, nLa, kb2 _ _ (by rw [off1 L nLa]; exact eL) nLa, hz, by omega, fun x2 t2 H3 ht2 hs2 hw2 kb3 hp3 => ?_⟩
        refine ⟨_, _, rfl, ?_⟩
        have l5 : 5 ≤ sizeLine := by rw [sizeLine_eq]; omega
        have l3' : 3 ≤ sizeLine := by rw [sizeLine_eq]; omega
        refine ⟨_, rfl, l5, fun p np => ⟨a, p, n + 1 + 3 * j + 1 + 3 * (m - 1 - j) + 1, _, rfl, hp3.upd (hp3.ne np), by omega, (hp3.ne np).symm, upd_same, by show 1 ≤ 5; omega, by show 5 < 1048576; omega, fun i x H4 hx off4 hp4 => ?_⟩⟩
        have hg : ∃ g : Sg, x = .str g.str := by
          match i, hx with
          | 0, hx => exact ⟨.ov, (Option.some.inj hx).symm⟩
          | 1, hx => exact ⟨.ov, (Option.some.inj hx).symm⟩
          | 2, hx => exact ⟨.th, (Option.some.inj hx).symm⟩
          | 3, hx => exact ⟨.un, (Option.some.inj hx).symm⟩
          | 4, hx => exact ⟨.un, (Option.some.inj hx).symm⟩
          | i + 5, hx => exact absurd hx (by simp)
        obtain ⟨g, rfl⟩ := hg
        have kb4 : KeepBut a H3 H4 := (KeepBut.of_same (same_upd np)).trans (.of_off off4)
        have kbA : KeepBut a H H4 := ((kb1.trans kb2).trans kb3).trans kb4
        refine ⟨_, rfl, _, rfl, l3', fun q nq => ?_⟩
        have tk4 : TK H3 (upd H4 q (.tup [.str g.str, x1, x2])) := (TK.of_keepBut kb4 hp3).trans (TK.upd_new nq)
        have tk3 : TK H2 (upd H4 q (.tup [.str g.str, x1, x2])) := (TK.of_keepBut kb3 hp2).trans tk4
        refine k _ (.n g t1 t2) _ (.n upd_same (ht1.mono tk3) (ht2.mono tk4)) ?_ ?_ (kbA.upd_new (kbA.free nq (hp4.ne nq).symm)) ((hp4.upd (hp4.ne nq)).mono (by omega))
        · show 1 + t1.signs + t2.signs = m
          omega
        · intro z hz'
          exact (List.mem_append.mp hz').elim (hw1 z) (hw2 z)
end
end V2

namespace V2
open PySem PySem.Spec PyProof.Rows L2 KT
open PySem.W (Frag)
/-! ### data: texts, numbers, None, tuples -/
/-- a text that may be met -/
def TxtOk (z : Str) : Prop := PyData.strOk z = true ∧ z.length ≤ 1000000
inductive D
  | s (z : Str)
  | i (n : Int)
  | o
  | t (l : List D)
mutual
inductive DAt (H : Hp) : V → D → Prop
  | s {z : Str} : TxtOk z → DAt H (.str z) (.s z)
  | i (n : Int) : DAt H (.int n) (.i n)
  | o : DAt H .non .o
  | t {p : Addr} {xs : List V} {ds : List D} : H p = some (.tup xs) → DsAt H xs ds → DAt H (.ref p) (.t ds)
inductive DsAt (H : Hp) : List V → List D → Prop
  | nil : DsAt H [] []
  | cons {v : V} {vs : List V} {d : D} {ds : List D} : DAt H v d → DsAt H vs ds → DsAt H (v :: vs) (d :: ds)
end
mutual
theorem DAt.mono {H H' : Hp} (k : TK H H') : ∀ {d : D} {v : V}, DAt H v d → DAt H' v d
  | .s _, _, .s h => .s h
  | .i _, _, .i n => .i n
  | .o, _, .o => .o
  | .t _, _, .t e h => .t (k _ _ e) (DsAt.mono k h)
theorem DsAt.mono {H H' : Hp} (k : TK H H') : ∀ {ds : List D} {vs : List V}, DsAt H vs ds → DsAt H' vs ds
  | [], _, .nil => .nil
  | _ :: _, _, .cons h r => .cons (DAt.mono k h) (DsAt.mono k r)
end
theorem DsAt.length {H : Hp} : ∀ {ds : List D} {vs : List V}, DsAt H vs ds → vs.length = ds.length
  | _, _, .nil => rfl
  | _, _, .cons _ r => by rw [List.length_cons, List.length_cons, r.length]
theorem DsAt.append {H : Hp} : ∀ {ds es : List D} {vs us : List V}, DsAt H vs ds → DsAt H us es → DsAt H (vs ++ us) (ds ++ es)
  | _, _, _, _, .nil, h => h
  | _, _, _, _, .cons a r, h => .cons a (r.append h)
theorem DsAt.at_ {H : Hp} : ∀ {ds : List D} {vs : List V}, DsAt H vs ds → ∀ {i : Nat} {v : V}, vs[i]? = some v → ∃ d, ds[i]? = some d ∧ DAt H v d
  | _, _, .nil, i, v, e => by simp at e
  | _, _, .cons h r, 0, v, e => by
    obtain rfl := Option.some.inj (show some _ = some v from e)
    exact ⟨_, rfl, h⟩
  | _, _, .cons h r, i + 1, v, e => r.at_ (i := i) (by simpa using e)
mutual
def D.py : D → PyData
  | .s z => .str z
  | .i n => .int n
  | .o => .none
  | .t l => .tuple (pyAll l)
def pyAll : List D → List PyData
  | [] => []
  | d :: r => d.py :: pyAll r
end
mutual
def D.dep : D → Nat
  | .s _ => 0
  | .i _ => 0
  | .o => 0
  | .t l => depAll l + 1
def depAll : List D → Nat
  | [] => 0
  | d :: r => max d.dep (depAll r)
end
mutual
def D.size : D → Nat
  | .s _ => 1
  | .i _ => 1
  | .o => 1
  | .t l => sizeAll l + 1
def sizeAll : List D → Nat
  | [] => 0
  | d :: r => d.size + sizeAll r
end
mutual
theorem DAt.py {K : Frag} {H : Hp} : ∀ {d : D} {v : V}, DAt H v d → Dp K H v d.py ∧ d.py.canLay0 = true ∧ d.py.depth = d.dep
  | .s z, _, .s h => ⟨.str _, by simp only [D.py, PyData.canLay0]; exact h.1, by simp only [D.py, PyData.depth, D.dep]⟩
  | .i _, _, .i n => ⟨.int _, by simp only [D.py, PyData.canLay0], by simp only [D.py, PyData.depth, D.dep]⟩
  | .o, _, .o => ⟨.non, by simp only [D.py, PyData.canLay0], by simp only [D.py, PyData.depth, D.dep]⟩
  | .t l, _, .t e h => by
    obtain ⟨h1, h2, h3⟩ := DsAt.py (K := K) h
    exact ⟨.tup (SqT.of e) h1, by simp only [D.py, PyData.canLay0]; exact h2, by simp only [D.py, PyData.depth, D.dep, h3]⟩
theorem DsAt.py {K : Frag} {H : Hp} : ∀ {ds : List D} {vs : List V}, DsAt H vs ds → DpAll K H vs (pyAll ds) ∧ PyData.canLayAll0 (pyAll ds) = true ∧ PyData.depthAll (pyAll ds) = depAll ds
  | [], _, .nil => ⟨.nil, by simp only [pyAll, PyData.canLayAll0], by simp only [pyAll, PyData.depthAll, depAll]⟩
  | _ :: _, _, .cons h r => by
    obtain ⟨a1, a2, a3⟩ := DAt.py (K := K) h
    obtain ⟨b1, b2, b3⟩ := DsAt.py (K := K) r
    exact ⟨.cons a1 b1, by simp only [pyAll, PyData.canLayAll0, a2, b2, Bool.and_self], by simp only [pyAll, PyData.depthAll, depAll, a3, b3]⟩
end
theorem DAt.shaped {K : Frag} {H : Hp} {d : D} {v : V} (h : DAt H v d) (l : d.dep ≤ 64) : SeqAt.shaped d.py = true := by
  obtain ⟨_, h2, h3⟩ := DAt.py (K := K) h
  unfold SeqAt.shaped
  rw [h2, h3, Bool.true_and]
  exact decide_eq_true l
theorem D.size_pos (d : D) : 1 ≤ d.size := by cases d <;> simp [D.size]
/-! ### types as data -/
def Ty.d : Ty → D
  | .w z => .s z
  | .n g a b => .t [.s g.str, a.d, b.d]
theorem isW_ok {z : Str} (h : IsW z) : TxtOk z := by
  refine ⟨?_, by have := h.2.1; omega⟩
  unfold PyData.strOk
  simp only [List.all_eq_true, Array.all_eq_true_iff_forall_mem, decide_eq_true_eq]
  intro c hc
  have := h.2.2 c (by simpa using hc)
  omega
theorem TyAt.d {H : Hp} {v : V} {t : Ty} (h : TyAt H v t) : DAt H v t.d := by
  induction h with
  | w h => exact .s (isW_ok h)
  | @n p g x y a b e _ _ i j => exact .t e (.cons (.s (by cases g <;> exact ⟨by decide +kernel, by decide +kernel⟩)) (.cons i (.cons j .nil)))
def sgOf (z : Str) : Option Sg := if z = "over" then some .ov else if z = "then" then some .th else if z = "under" then some .un else none
theorem sgOf_some {z : Str} {g : Sg} (h : sgOf z = some g) : z = g.str := by
  unfold sgOf at h
  split at h
  · cases h; assumption
  · split at h
    · cases h; assumption
    · split at h
      · cases h; assumption
      · cases h
theorem sgOf_str (g : Sg) : sgOf g.str = some g := by cases g <;> decide +kernel
end V2

namespace V2
open PySem PySem.Spec PyProof.Rows L2 KT
open PySem.W (Frag)
theorem isWB_of {z : Str} (h : IsW z) : isWB z = true := by
  unfold isWB
  simp only [Bool.and_eq_true, decide_eq_true_eq, List.all_eq_true]
  exact ⟨⟨h.1, h.2.1⟩, h.2.2⟩
def mkTy (l : List D) (r : List (Option Ty)) : Option Ty := match l, r with
  | [.s g, _, _], [_, some a, some b] => (sgOf g).map fun g => .n g a b
  | _, _ => none
mutual
def D.ty : D → Option Ty
  | .s z => if isWB z = true then some (.w z) else none
  | .i _ => none
  | .o => none
  | .t l => mkTy l (tyAll l)
def tyAll : List D → List (Option Ty)
  | [] => []
  | d :: r => d.ty :: tyAll r
end
def Ty.wok : Ty → Prop
  | .w z => IsW z
  | .n _ a b => a.wok ∧ b.wok
theorem TyAt.wok {H : Hp} {v : V} {t : Ty} (h : TyAt H v t) : t.wok := by
  induction h with
  | w h => exact h
  | n _ _ _ i j => exact ⟨i, j⟩
theorem Ty.ty_d (t : Ty) (h : t.wok) : t.d.ty = some t := by
  induction t with
  | w z =>
    simp only [Ty.d, D.ty]
    rw [if_pos (isWB_of h)]
  | n g a b i j => simp only [Ty.d, D.ty, tyAll, mkTy, i h.1, j h.2, sgOf_str, Option.map_some]
theorem mkTy_inv {l : List D} {r : List (Option Ty)} {t : Ty} (h : mkTy l r = some t) : ∃ g x y a b, l = [.s (Sg.str g), x, y] ∧ (∃ o, r = [o, some a, some b]) ∧ t = .n g a b := by
  unfold mkTy at h
  split at h
  · obtain ⟨g, h1, h2⟩ := Option.map_eq_some_iff.mp h
    exact ⟨g, _, _, _, _, by rw [sgOf_some h1], ⟨_, rfl⟩, h2.symm⟩
  · cases h
mutual
/-- a datum that is a type lies in the heap as that type -/
theorem DAt.ty {H : Hp} : ∀ {d : D} {v : V} {t : Ty}, DAt H v d → d.ty = some t → TyAt H v t
  | .s z, _, t, .s _, h => by
    simp only [D.ty] at h
    split at h
    · rename_i q
      cases h
      exact .w (isWB_ok q)
    · cases h
  | .i _, _, t, .i _, h => by simp only [D.ty] at h; cases h
  | .o, _, t, .o, h => by simp only [D.ty] at h; cases h
  | .t l, _, t, .t e hs, h => by
    simp only [D.ty] at h
    obtain ⟨g, x, y, a, b, rfl, ⟨o, hr⟩, rfl⟩ := mkTy_inv h
    simp only [tyAll] at hr
    have q := DsAt.ty hs
    cases hs with
    | cons h1 hs => cases hs with
      | cons h2 hs => cases hs with
        | cons h3 hs => cases hs with
          | nil =>
            cases h1
            injection hr with _ hr
            injection hr with e1 hr
            injection hr with e2 _
            exact .n e (q 1 _ _ _ rfl rfl e1) (q 2 _ _ _ rfl rfl e2)
theorem DsAt.ty {H : Hp} : ∀ {ds : List D} {vs : List V}, DsAt H vs ds → ∀ (j : Nat) (v : V) (d : D) (t : Ty), vs[j]? = some v → ds[j]? = some d → d.ty = some t → TyAt H v t
  | [], _, .nil, j, v, d, t, e, _, _ => by simp at e
  | _ :: _, _, .cons h r, 0, v, d, t, e1, e2, e3 => by
    obtain rfl := Option.some.inj (show some _ = some v from e1)
    obtain rfl := Option.some.inj (show some _ = some d from e2)
    exact DAt.ty h e3
  | _ :: _, _, .cons h r, j + 1, v, d, t, e1, e2, e3 => DsAt.ty r j v d t (by simpa using e1) (by simpa using e2) e3
end
/-! ### what a derivation tells -/
abbrev Told := List Ty × Ty
def madeO : Told → Option Told
  | (row, goal) => if row.length < 2 then none else some (row.dropLast, .n .ov goal (row.getLastD (.w "")))
def madeU : Told → Option Told
  | (a :: b :: r, goal) => some (b :: r, .n .un a goal)
  | _ => none
def thenM (x y : Told) : Told := (x.1 ++ y.1, .n .th x.2 y.2)
def usedAt (nm : Str) (p : Int) (x y : Told) : Option Told :=
  if 0 ≤ p then
    match y.1[p.toNat]? with
    | none => none
    | some k =>
      if nm = "over used" then some (y.1.take p.toNat ++ [.n .ov k x.2] ++ x.1 ++ y.1.drop (p.toNat + 1), y.2)
      else if nm = "under used" then some (y.1.take p.toNat ++ x.1 ++ [.n .un x.2 k] ++ y.1.drop (p.toNat + 1), y.2)
      else if k = x.2 then some (y.1.take p.toNat ++ x.1 ++ y.1.drop (p.toNat + 1), y.2) else none
  else none
def thenU (p : Int) (y : Told) : Option Told :=
  if 0 ≤ p then
    match y.1[p.toNat]?, y.1[p.toNat + 1]? with
    | some a, some b => some (y.1.take p.toNat ++ [.n .th a b] ++ y.1.drop (p.toNat + 2), y.2)
    | _, _ => none
  else none
def both (f : Told → Told → Option Told) : Option Told → Option Told → Option Told
  | some x, some y => f x y
  | _, _ => none
def placed (nm : Str) : Bool := decide (nm = "over used") || decide (nm = "under used") || decide (nm = "cut")
def tellOf (l : List D) (r : List (Option Told)) : Option Told := match l, r with
  | [.s nm, x], [_, rx] => if nm = "is" then x.ty.map fun k => ([k], k) else if nm = "over made" then rx.bind madeO else if nm = "under made" then rx.bind madeU else none
  | [.s nm, x, _], [_, rx, ry] => if nm = "then made" then both (fun a b => some (thenM a b)) rx ry else if nm = "then used" then (match x with | .i p => ry.bind (thenU p) | _ => none) else none
  | [.s nm, .i p, _, _], [_, _, rx, ry] => if placed nm = true then both (usedAt nm p) rx ry else none
  | _, _ => none
mutual
def D.tl : D → Option Told
  | .s _ => none
  | .i _ => none
  | .o => none
  | .t l => tellOf l (tlAll l)
def tlAll : List D → List (Option Told)
  | [] => []
  | d :: r => d.tl :: tlAll r
end
/-! ### the form of a knot -/
def D.formed : D → Bool
  | .t [.s nm, x] => if nm = "is" then x.ty.isSome else decide (nm = "over made") || decide (nm = "under made")
  | .t [.s nm, x, _] => decide (nm = "then made") || (decide (nm = "then used") && match x with | .i p => decide (0 ≤ p) | _ => false)
  | .t [.s nm, x, _, _] => placed nm && match x with | .i p => decide (0 ≤ p) | _ => false
  | _ => false
def D.parts : D → List D
  | .t [.s nm, x] => if nm = "is" then [] else [x]
  | .t [.s nm, x, y] => if nm = "then used" then [y] else [x, y]
  | .t [_, _, x, y] => [x, y]
  | _ => []
def allKOf (l : List D) (r : List Bool) : Bool := (D.t l).formed && match l, r with
  | [.s nm, _], [_, x] => if nm = "is" then true else x
  | [.s nm, _, _], [_, x, y] => if nm = "then used" then y else x && y
  | [_, _, _, _], [_, _, x, y] => x && y
  | _, _ => true
mutual
/-- it and all parts in it have a knot's form -/
def D.allK : D → Bool
  | .s _ => false
  | .i _ => false
  | .o => false
  | .t l => allKOf l (allKs l)
def allKs : List D → List Bool
  | [] => []
  | d :: r => d.allK :: allKs r
end
def nodesOf (l : List D) (r : List (List D)) : List D := D.t l :: match l, r with
  | [.s nm, _], [_, x] => if nm = "is" then [] else x
  | [.s nm, _, _], [_, x, y] => if nm = "then used" then y else y ++ x
  | [_, _, _, _], [_, _, x, y] => y ++ x
  | _, _ => []
mutual
def D.nodes : D → List D
  | .s z => [.s z]
  | .i n => [.i n]
  | .o => [.o]
  | .t l => nodesOf l (nodesLs l)
def nodesLs : List D → List (List D)
  | [] => []
  | d :: r => d.nodes :: nodesLs r
end
end V2

/-! Sets of texts: set(a list of texts), sorted of it. -/
namespace KT
open PySem PySem.Spec PyProof.Rows L2
theorem nodup_len : ∀ (l D : List Str), l.Nodup → (∀ x ∈ l, x ∈ D) → l.length ≤ D.length
  | [], _, _, _ => Nat.zero_le _
  | x :: l, D, h, s => by
    obtain ⟨h1, h2⟩ := List.nodup_cons.mp h
    have hx := s x List.mem_cons_self
    have q := nodup_len l (D.erase x) h2 fun y hy => (List.mem_erase_of_ne (fun e => h1 (by rw [← e]; exact hy))).mpr (s y (List.mem_cons_of_mem _ hy))
    rw [List.length_erase_of_mem hx] at q
    have : 0 < D.length := List.length_pos_of_mem hx
    rw [List.length_cons]
    omega
def keyS (e : Int × Value) : Str := match e.2 with
  | .str k _ => k
  | _ => Str.empty
/-- the texts of ks (some of them told twice) are in the set at a -/
def SetG (P : Program) (w : World) (h : Heap) (a : Addr) (ks : List Str) : Prop :=
  ∃ o es ep t, h.get? a = some o ∧ o.ExactSet ∧ o.data = .set es ep t ∧ (∀ e ∈ es.toList, ∃ k tk, e.2 = Value.str k tk ∧ e.1 = (PySem.strKind P w).hash k) ∧ (es.toList.map keyS).Nodup ∧ (∀ k, k ∈ es.toList.map keyS ↔ k ∈ ks) ∧
    es.size < scanBound ∧ t.fits es.size = true ∧ L2.Ris t.place.toList ∧ (w.params.followText "set-order" = true ∨ t.led = true)
section
variable {P : Program} {w : World} {h h' : Heap} {a : Addr} {ks : List Str}
theorem SetG.at_ (R : SetG P w h a ks) (k : ∀ o, h.get? a = some o → h'.get? a = some o) : SetG P w h' a ks := by
  obtain ⟨o, es, ep, t, ho, r⟩ := R
  exact ⟨o, es, ep, t, k o ho, r⟩
theorem els_of {l : List (Int × Value)} (g : ∀ e ∈ l, ∃ k tk, e.2 = Value.str k tk ∧ e.1 = (PySem.strKind P w).hash k) : ElemsOf (PySem.strKind P w) l := fun e he => by
  obtain ⟨k, tk, h1, h2⟩ := g e he
  exact ⟨⟨k, by rw [h1]; exact strKind_is P w k tk, h2⟩, by rw [h1] <;> rfl⟩
theorem is_key {e : Int × Value} (g : ∃ k tk, e.2 = Value.str k tk ∧ e.1 = (PySem.strKind P w).hash k) (k : Str) : (PySem.strKind P w).is k e.2 = true ↔ keyS e = k := by
  obtain ⟨k0, tk, h1, _⟩ := g
  have hk : (PySem.strKind P w).is k0 e.2 = true := by rw [h1]; exact strKind_is P w k0 tk
  have e0 : keyS e = k0 := by unfold keyS; rw [h1]
  rw [e0]
  constructor
  · intro z
    exact (PySem.strKind P w).inj _ _ _ hk z
  · intro z
    rw [← z]
    exact hk
end
section
variable {P : Program} {w : World} {A : Around} {E : Value → Shared → Prop} {s : Shared} {a : Addr} {ks : List Str}
/-- the end of an addition: the new table is stored, and laid anew where it is too full -/
theorem setG_tail {g : Bool → Sem Unit} (hg : ∀ (b : Bool) (s₁ : Shared) (Q' : Unit → Shared → Prop), Q' () s₁ → wpAny (model P w) A (g b) Q' E s₁)
    {o : Obj} {es : Array (Int × Value)} {ep : Nat} {t : SetTable} (ho : s.heap.get? a = some o) (hex : o.ExactSet) (hd : o.data = .set es ep t)
    {es1 : Array (Int × Value)} {t2 : SetTable} {ks' : List Str} (new : ∀ h' o' es2 ep2 t3, h'.get? a = some o' → o'.ExactSet → o'.data = .set es2 ep2 t3 → es2.toList.Perm es1.toList → t3.fits es2.size = true → L2.Ris t3.place.toList → (w.params.followText "set-order" = true ∨ t3.led = true) → SetG P w h' a ks')
    (hb1 : es1.size < scanBound) (hf2 : t2.fits es1.size = true) (hr : L2.Ris t2.place.toList) (hl : w.params.followText "set-order" = true ∨ t2.led = true) {wasDummy : Bool} {R : Option Bool → Shared → Prop}
    (hR : ∀ h', Heap.SameBut a s.heap h' → SetG P w h' a ks' → R (some true) { s with heap := h' }) :
    wpAny (model P w) A (do
        storeSet a es1 t2
        if (!wasDummy && t2.tooFull) = true then do
            g (relayAll t2 es1 (SetTable.grown es1.size)).2.2
            storeSet a (relayAll t2 es1 (SetTable.grown es1.size)).1 (relayAll t2 es1 (SetTable.grown es1.size)).2.1
            pure (some true)
          else pure (some true)) R E s := by
  refine wpAny_bind (wpAny_storeSet_of ho hd ?_ (fits_of_scanBound hb1))
  have ho1 := store_at (es' := es1) (t' := t2) ho hd
  have sb1 := Heap.SameBut.update s.heap a (Obj.putSet es1 t2)
  split
  · have pm := relayAll_perm t2 es1 (SetTable.grown es1.size)
    have hf3 := relayAll_fits t2 es1 (SetTable.grown es1.size)
    have hr3 := relayAll_ris t2 es1 (SetTable.grown es1.size)
    have hl3 := relayAll_led t2 es1 (SetTable.grown es1.size)
    generalize relayAll t2 es1 (SetTable.grown es1.size) = Z at pm hf3 hr3 hl3 ⊢
    obtain ⟨es2, t3, gave⟩ := Z
    dsimp only at pm hf3 hr3 hl3 ⊢
    have hsz : es2.size = es1.size := by rw [← Array.length_toList, pm.length_eq, Array.length_toList]
    refine wpAny_bind (hg _ _ _ ?_)
    refine wpAny_bind (wpAny_storeSet_of ho1 rfl ?_ (fits_of_scanBound (by rw [hsz]; exact hb1)))
    have ho2 := store_at (es' := es2) (t' := t3) ho1 rfl
    exact wpAny_pure (hR _ (sb1.trans (Heap.SameBut.update _ a _)) (new _ _ es2 _ t3 ho2 hex rfl pm hf3 hr3 (hl.imp id fun z => by rw [hl3]; exact z)))
  · exact wpAny_pure (hR _ sb1 (new _ _ es1 _ t2 ho1 hex rfl (.refl _) hf2 hr hl))
theorem setG_add {k : Str} {tk : Tok} {Q : Bool → Shared → Prop} (R : SetG P w s.heap a ks) (room : ks.length + 2 < scanBound)
    (hQ : ∀ h' b, Heap.SameBut a s.heap h' → SetG P w h' a (ks ++ [k]) → Q b { s with heap := h' }) :
    wpAny (model P w) A (setAddHashed a (.str k tk) ((PySem.strKind P w).hash k)) Q E s := by
  obtain ⟨o, es, ep, t, ho, hex, hd, g, nd, hm, hb, hf, hr, hl⟩ := R
  have hkey : (PySem.strKind P w).is k (.str k tk) = true := strKind_is P w k tk
  have hsc : (Value.str k tk).scannable = true := rfl
  have hel : ElemsOf (PySem.strKind P w) es.toList := els_of g
  have hkm : k ∈ es.toList.map keyS ↔ ∃ e ∈ es.toList, (PySem.strKind P w).is k e.2 = true := by
    rw [List.mem_map]
    exact ⟨fun ⟨e, he, q⟩ => ⟨e, he, (is_key (g e he) k).2 q⟩, fun ⟨e, he, q⟩ => ⟨e, he, (is_key (g e he) k).1 q⟩⟩
  unfold setAddHashed setAddHashedIn
  refine wpAny_holding (wpAny_bind (wpAny_setState_of ho hd hf ?_))
  dsimp only
  rw [byScan_of hsc hb hel]
  simp only [↓reduceIte]
  unfold setAddByScan
  refine wpAny_bind ?_
  refine wpAny_bind (wpAny_rule ?_)
  refine wpAny_bind (wpAny_setScan_of hkey ho hd hf hel ?_)
  cases hfi : List.findIdx? (fun e => (PySem.strKind P w).is k e.2) es.toList with
  | some j =>
    dsimp only
    obtain ⟨hj, pj, _⟩ := List.findIdx?_eq_some_iff_getElem.mp hfi
    have hk : k ∈ ks := (hm k).1 (hkm.2 ⟨es.toList[j], List.getElem_mem hj, pj⟩)
    refine wpAny_pure (wpAny_pure ?_)
    exact hQ s.heap _ (Heap.SameBut.refl a s.heap) ⟨o, es, ep, t, ho, hex, hd, g, nd, fun i => by
      rw [hm i, List.mem_append, List.mem_singleton]
      exact ⟨.inl, fun z => z.elim id fun e => e ▸ hk⟩, hb, hf, hr, hl⟩
  | none =>
    dsimp only
    have hnk : k ∉ es.toList.map keyS := fun z => by
      obtain ⟨e, he, q⟩ := hkm.1 z
      have c := List.findIdx?_eq_none_iff.mp hfi e he
      rw [q] at c
      cases c
    have hgw : ∀ (b : Bool) {s₁ : Shared} {Q' : Unit → Shared → Prop}, Q' () s₁ → wpAny (model P w) A (match b with | true => rule "set.scan.the-table-gave-way" | false => pure ()) Q' E s₁ :=
      fun b s₁ Q' q => by cases b <;> first | exact wpAny_pure q | exact wpAny_rule q
    have pm := layNew_perm t es ((PySem.strKind P w).hash k) (.str k tk)
    have hf1 := layNew_fits t es ((PySem.strKind P w).hash k) (.str k tk)
    have hr1 := layNew_ris t es ((PySem.strKind P w).hash k) (.str k tk) hr
    have hl1 := layNew_led t es ((PySem.strKind P w).hash k) (.str k tk)
    generalize layNew t es ((PySem.strKind P w).hash k) (.str k tk) = Z at pm hf1 hr1 hl1 ⊢
    obtain ⟨es1, t1, wasDummy, gave⟩ := Z
    dsimp only at pm hf1 hr1 hl1 ⊢
    rw [Array.toList_push] at pm
    have pc : es1.toList.Perm (((PySem.strKind P w).hash k, Value.str k tk) :: es.toList) := pm.trans (List.perm_append_singleton _ _)
    have hlen : (es.toList.map keyS).length ≤ ks.length := nodup_len _ _ nd fun x hx => (hm x).1 hx
    have hes : es1.size = es.size + 1 := by rw [← Array.length_toList, pc.length_eq, List.length_cons, Array.length_toList]
    have hle : es.size ≤ ks.length := by rw [List.length_map, Array.length_toList] at hlen; exact hlen
    have hb1 : es1.size < scanBound := by rw [hes]; omega
    have hled : w.params.followText "set-order" = true ∨ t1.led = true := hl.imp id fun z => by rw [hl1]; exact z
    have new : ∀ h' o' es2 ep2 t3, h'.get? a = some o' → o'.ExactSet → o'.data = .set es2 ep2 t3 → es2.toList.Perm es1.toList → t3.fits es2.size = true → L2.Ris t3.place.toList → (w.params.followText "set-order" = true ∨ t3.led = true) → SetG P w h' a (ks ++ [k]) := by
      intro h' o' es2 ep2 t3 e1 e2 e3 p f r l
      have pa := p.trans pc
      have pk : (es2.toList.map keyS).Perm (k :: es.toList.map keyS) := pa.map keyS
      refine ⟨o', es2, ep2, t3, e1, e2, e3, fun e he => ?_, pk.nodup_iff.mpr (List.nodup_cons.mpr ⟨hnk, nd⟩), fun i => ?_, ?_, f, r, l⟩
      · rcases List.mem_cons.mp (pa.mem_iff.mp he) with z | z
        · rw [z]; exact ⟨k, tk, rfl, rfl⟩
        · exact g e z
      · rw [pk.mem_iff, List.mem_cons, hm i, List.mem_append, List.mem_singleton]
        exact Or.comm
      · have : es2.size = es1.size := by rw [← Array.length_toList, p.length_eq, Array.length_toList]
        rw [this]
        exact hb1
    refine wpAny_bind (hgw _ ?_)
    split
    · refine wpAny_bind ?_
      rw [hashByValue_scannable 8 hsc]
      refine wpAny_pure ?_
      refine setG_tail (ks' := ks ++ [k]) ?_ ho hex hd new hb1 ?_ ?_ ?_ ?_
      · intro b s₁ Q' q; cases b <;> first | exact wpAny_pure q | exact wpAny_rule q
      · first | (split <;> first | exact hf1 | exact SetTable.fits_plain_off hf1) | exact hf1
      · first | (split <;> exact hr1) | exact hr1
      · first | (split <;> exact hled) | exact hled
      · intro h' sb r; dsimp only; exact wpAny_pure (hQ h' _ sb r)
    · refine wpAny_bind (wpAny_pure ?_)
      simp only [↓reduceIte]
      refine setG_tail (ks' := ks ++ [k]) ?_ ho hex hd new hb1 hf1 hr1 hled ?_
      · intro b s₁ Q' q; cases b <;> first | exact wpAny_pure q | exact wpAny_rule q
      · intro h' sb r; dsimp only; exact wpAny_pure (hQ h' _ sb r)
theorem setG_fresh {h : Heap} (ho : h.get? a = some { cls := .type "set", dict := none, data := .set #[] 0 (.fresh 0 0 (!w.params.followText "set-order")) }) : SetG P w h a [] :=
  ⟨_, #[], 0, _, ho, ⟨rfl, rfl, rfl⟩, rfl, (fun e he => by simp at he), (by simp), (fun k => by simp), (by decide), (by rfl), List.Pairwise.nil, by
    show _ ∨ (!w.params.followText "set-order") = true
    cases w.params.followText "set-order"
    · exact .inr rfl
    · exact .inl rfl⟩
/-- the loop that puts the texts in -/
theorem set_update_strs {I : Addr} {fp wr : List Addr} {G : Array GenState → Array GenState → Prop} {n : Nat} {Pv : Nat → Value → Prop} {St : Nat → Shared → Prop} {R : Result → Shared → Prop}
    (W : WalksS P w A.in1 I fp wr G n Pv St) (S : Addr) (hSf : S ∉ fp) (xs : List Str) (hn : n = xs.length) (hfew : xs.length + 2 < scanBound) (hval : ∀ i v, Pv i v → ∃ t, v = .str (xs.getD i Str.empty) t) :
    ∀ (k i : Nat) (s : Shared), n - i = k → i ≤ n → St i s → SetG P w s.heap S (xs.take i) →
      (∀ s', Moved (S :: wr) G s s' → SetG P w s'.heap S xs → R (.ok (.ret .none)) s') →
      codeAny (model P w) A (.builtin "set.update.loop" ⟨[.ref S, .ref I], []⟩) R s := by
  have hSw : S ∉ wr := fun h => hSf (W.sub _ h)
  have hsub : ∀ b ∈ wr, b ∈ S :: wr := fun b hb => List.mem_cons_of_mem _ hb
  intro k
  induction k with
  | zero =>
    intro i s hk hi hst hS hR
    have hin : i = n := by omega
    subst hin
    refine codeAny_builtin PyProof.Rows.F.entry_set_update_loop ?_
    rw [Around.under_plainId PyProof.Rows.F.plain_set_update_loop _]
    show wpAny _ A.in1 (pyNext (.ref I) >>= _) _ _ s
    refine wpAny_bind (W.done s _ _ hst fun s' hm => ?_)
    show wpAny _ A.in1 (ret Value.none) _ _ s'
    rw [hn, List.take_length] at hS
    exact wpAny_pure (hR s' (hm.mono hsub) (hS.at_ fun o e => hm.heap S o hSw e))
  | succ k ih =>
    intro i s hk hi hst hS hR
    have hlt : i < n := by omega
    refine codeAny_builtin PyProof.Rows.F.entry_set_update_loop ?_
    rw [Around.under_plainId PyProof.Rows.F.plain_set_update_loop _]
    show wpAny _ A.in1 (pyNext (.ref I) >>= _) _ _ s
    refine wpAny_bind (W.item i s _ _ hlt hst fun v s' hP hst' hm => ?_)
    obtain ⟨t, rfl⟩ := hval i v hP
    have hS' : SetG P w s'.heap S (xs.take i) := hS.at_ fun o e => hm.heap S o hSw e
    show wpAny _ A.in1 (holding [Value.str (xs.getD i Str.empty) t] (setAdd S (.str (xs.getD i Str.empty) t)) >>= _) _ _ s'
    refine wpAny_bind (wpAny_holding ?_)
    unfold setAdd
    refine wpAny_holding ?_
    refine wpAny_bind ((PySem.strKind P w).pyHash (k := xs.getD i Str.empty) (strKind_is _ _ _ _) ?_)
    refine setG_add (s := { s' with toks := s'.toks + 1 }) hS' (by rw [List.length_take]; omega) fun h' b hsb hS2 => ?_
    have et : xs.take i ++ [xs.getD i Str.empty] = xs.take (i + 1) := by
      rw [List.take_add_one]
      have q : xs[i]? = some (xs.getD i Str.empty) := by
        have l : i < xs.length := by omega
        simp [List.getD, l]
      rw [q]
      rfl
    rw [et] at hS2
    refine wpAny_pure ⟨plainId_quiet PyProof.Rows.F.plain_set_update_loop _, ih (i + 1) _ (by omega) hlt (W.frame _ s' _ _ hst' (Nat.le_succ _) fun b hb o e => ?_) hS2 fun s'' hm'' hS'' => ?_⟩
    · rw [hsb.2 b (fun h : b = S => hSf (by rw [← h]; exact hb))]; exact e
    · refine hR s'' (Moved.trans W.gtrans ((hm.mono hsub).then_heap (Nat.le_succ _) fun b o hb e => ?_) hm'') hS''
      rw [hsb.2 b (fun h : b = S => hb (by rw [h]; exact List.mem_cons_self))]; exact e
set_option maxHeartbeats 3200000 in
/-- set(a list of texts) -/
theorem call_set_strs {l : Addr} {items : Array Value} {xs : List Str} {Q : Value → Shared → Prop} (hh : A.handled = none) (hl : s.heap.IsList l items) (hi : PyProof.Rows.StrsAre items.toList xs) (hfew : xs.length + 2 < scanBound)
    (h : ∀ (h' : Heap) (tk : Nat), SetG P w h' s.heap.objs.size xs → (∀ b o, s.heap.get? b = some o → h'.get? b = some o) → Q (.ref s.heap.objs.size) { s with heap := h', toks := tk }) :
    wpAny (model P w) A (call (.type "set") [.ref l]) Q E s := by
  obtain ⟨c, tl, hmro⟩ := PySem.F.called_set.mro
  have hmade := PySem.F.called_set.made
  have hsub := PySem.F.called_set.sub
  refine wpAny_call (codeAny_of_tree ?_)
  show wpAny _ _ (callAny (.type "set") _) _ _ _
  refine wpAny_pure ⟨Code.quiet_builtin _ (by decide +kernel), codeAny_builtin PySem.F.entry_type_call ?_⟩
  rw [Around.under_plain (weight_type_call_type "set" [.ref l] []) rfl]
  have h1 := PySem.F.called_set.notType
  have h2 := PySem.F.called_set.canCreate
  have hct := PySem.F.typeCall_set_1 (.ref l)
  repeat (any_goals (first | assumption | wp_step))

  refine codeAny_mono (L2.code_set_led1 (.ref l) (E := E) (Q₁ := fun obj s₁ => obj = .ref s.heap.objs.size ∧ s₁ = { s with heap := s.heap.push { cls := .type "set", dict := none, data := .set #[] 0 (.fresh 0 0 (!w.params.followText "set-order")) } }) ⟨rfl, rfl⟩) fun r s₁ hr => ?_
  match r, hr with
  | .error e, hr => exact hr
  | .ok .next, hr => exact hr.elim
  | .ok .brk, hr => exact hr.elim
  | .ok .cont, hr => exact hr.elim
  | .ok (.ret obj), hr =>
      obtain ⟨rfl, rfl⟩ := hr
      have hS : (s.heap.push { cls := .type "set", dict := none, data := .set #[] 0 (.fresh 0 0 (!w.params.followText "set-order")) }).get? s.heap.objs.size = some { cls := .type "set", dict := none, data := .set #[] 0 (.fresh 0 0 (!w.params.followText "set-order")) } := Heap.get?_push_size _ rfl
      have hT : Shared.TypeIs { s with heap := s.heap.push { cls := .type "set", dict := none, data := .set #[] 0 (.fresh 0 0 (!w.params.followText "set-order")) } } (.ref s.heap.objs.size) "set" := ⟨_, hS, rfl⟩
      have hli := PySem.F.called_set.init.lookup
      have hbi := PySem.F.called_set.init.bind (.ref s.heap.objs.size)
      repeat (any_goals (first | assumption | wp_step))

      refine codeAny_mono (codeAny_call_builtin (R := wants (fun r s₂ => r = .none ∧ ∃ h' tk, s₂ = { s with heap := h', toks := tk } ∧ SetG P w h' s.heap.objs.size xs ∧ (∀ b o, s.heap.get? b = some o → h'.get? b = some o)) E)
        PySem.F.called_set.init.plain PySem.F.entry_set_init (check_set_init_1 hT ?_)) fun r₂ s₂ hr₂ => ?_
      · obtain ⟨ol, hol, hcl, nl, hdl⟩ := hl
        obtain ⟨ocls, odict, odata, oslots⟩ := ol
        simp only at hcl hdl
        subst hcl; subst hdl
        have hol' : (s.heap.push { cls := .type "set", dict := none, data := .set #[] 0 (.fresh 0 0 (!w.params.followText "set-order")) }).get? l = some { cls := .type "list", dict := odict, data := .seq items nl, slots := oslots } := Heap.get?_push_of_some _ hol
        have hsls := PySem.F.sub_list_set
        have hslf := PySem.F.sub_list_frozenset
        have hne : (Value.type "list" == Value.type "dict") = false := by decide
        have hl1 : (s.heap.push { cls := .type "set", dict := none, data := .set #[] 0 (.fresh 0 0 (!w.params.followText "set-order")) }).IsList l items := ⟨_, hol', rfl, nl, rfl⟩
        unfold Builtin.«set.__init__» noKeywords Builtin.Frozenset.updateFrom
        generalize hPI : pyIter = PI
        wp_walk
        subst hPI

        refine wpAny_pyIter_list hl1 ?_
        refine wpAny_bind (wpAny_runValue ?_)
        have hlS : l < s.heap.objs.size := Heap.lt_size hol
        have hh3 : A.in1.in1.in1.handled = none := by simp [hh]
        have hneI : l ≠ (s.heap.push { cls := .type "set", dict := none, data := .set #[] 0 (.fresh 0 0 (!w.params.followText "set-order")) }).objs.size := by
          rw [Heap.size_push]; exact Nat.ne_of_lt (Nat.lt_succ_of_lt hlS)
        have hSf : s.heap.objs.size ∉ [(s.heap.push { cls := .type "set", dict := none, data := .set #[] 0 (.fresh 0 0 (!w.params.followText "set-order")) }).objs.size, l] := by
          rw [Heap.size_push]; simp only [List.mem_cons, List.mem_singleton, List.not_mem_nil, or_false, not_or]
          exact ⟨Nat.ne_of_lt (Nat.lt_succ_self _), Nat.ne_of_gt hlS⟩
        have hsz : xs.length = items.size := by rw [← StrsAre.len_eq hi, Array.length_toList]
        have hval : ∀ (i : Nat) (v : Value), items[i]? = some v → ∃ t, v = .str (xs.getD i Str.empty) t := fun i v hv => SS.strs_at hi i v (by rw [Array.getElem?_toList]; exact hv)
        refine set_update_strs ((Walks.list hh3 _ l hneI items).toS) s.heap.objs.size
          hSf xs hsz.symm hfew hval (items.size - 0) 0 _ (by omega) (Nat.zero_le _)
          ⟨⟨_, Heap.get?_push_size _ rfl, rfl, rfl⟩, (hl1.push _)⟩ ?hS0 ?hR
        case hS0 =>
          exact setG_fresh (Heap.get?_push_of_some _ hS)
        case hR =>
          intro s' hm hS'
          obtain ⟨h', g', d', tk', os'⟩ := s'
          have eg : g' = s.gens := hm.gens
          have ed : d' = s.drawn := hm.drawn
          have eo : os' = s.os := hm.os
          subst eg; subst ed; subst eo
          show wpAny _ _ _ _ _ _
          refine wpAny_pure ?_
          show wpAny _ _ (ret Value.none) _ _ _
          refine wpAny_pure ⟨rfl, h', tk', rfl, hS', fun b o e => ?_⟩
          have hb := Heap.lt_size e
          have hb1 : b ≠ s.heap.objs.size := Nat.ne_of_lt hb
          have hb2 : b ≠ (s.heap.push { cls := .type "set", dict := none, data := .set #[] 0 (.fresh 0 0 (!w.params.followText "set-order")) }).objs.size := by
            rw [Heap.size_push]; exact Nat.ne_of_lt (Nat.lt_succ_of_lt hb)
          exact hm.heap b o (by simp only [List.mem_cons, List.mem_singleton, List.not_mem_nil, or_false, not_or]; exact ⟨hb1, hb2⟩) (Heap.get?_push_of_some _ (Heap.get?_push_of_some _ e))
      · match r₂, hr₂ with
        | .error e, hr₂ => exact hr₂
        | .ok .next, hr₂ => exact hr₂.elim
        | .ok .brk, hr₂ => exact hr₂.elim
        | .ok .cont, hr₂ => exact hr₂.elim
        | .ok (.ret r), hr₂ =>
          obtain ⟨rfl, h', tk, rfl, hS', hk'⟩ := hr₂
          repeat (any_goals (first | assumption | wp_step))
          exact h _ _ hS' hk'
end
end KT

namespace KT
open PySem PySem.Spec PyProof.Rows L2
section
variable {P : Program} {w : World} {A : Around} {E : Value → Shared → Prop} {s : Shared} {a : Addr} {ks : List Str}
theorem strs_of : ∀ (l : List Value), (∀ v ∈ l, ∃ k tk, v = Value.str k tk) → StrsAre l (l.map fun v => keyS (0, v))
  | [], _ => .nil
  | v :: l, h => by
    obtain ⟨k, tk, rfl⟩ := h v List.mem_cons_self
    exact .cons k tk (strs_of l fun u hu => h u (List.mem_cons_of_mem _ hu))
/-- sorted(a set of texts) -/
theorem sorted_setG {Q : Value → Shared → Prop} (R : SetG P w s.heap a ks) (hh : A.handled = none)
    (hQ : ∀ s' p (out : Array Value) (c : Nat) (ys : List Str), (∀ b o, s.heap.get? b = some o → s'.heap.get? b = some o) → s'.gens = s.gens → s'.os = s.os → s.heap.objs.size ≤ p →
      s'.heap.get? p = some (seqObj "list" out c) → StrsAre out.toList ys → sortedS ys = true → ys.Nodup → (∀ k, k ∈ ys ↔ k ∈ ks) → ys.length ≤ 4096 → Q (.ref p) s') :
    wpAny (model P w) A (call (.builtin "sorted") [.ref a]) Q E s := by
  obtain ⟨o, es, ep, t, ho, hex, hd, g, nd, hm, hb, hf, hr, hl⟩ := R
  refine Calls.call_function_entry kind_sorted plain_sorted entry_sorted (args_sorted1 _) ?_
  unfold Builtin.«sorted»
  refine wpAny_bind (m := checkCount "sorted" 1 1 _) (wpAny_pure ?_)
  refine wpAny_bind (collect_set (A := A.in1) hh ⟨o, ho, hex.1, hd⟩ hf hb hr hl fun s1 vs k1 hz g1 o1 pm => ?_)
  have hvl : vs.length = es.size := by rw [pm.length_eq, List.length_map, Array.length_toList]
  have hb' : es.size < 4096 := hb
  have hS : StrsAre vs (vs.map fun v => keyS (0, v)) := strs_of vs fun v hv => by
    obtain ⟨e, he, q⟩ := List.mem_map.mp (pm.mem_iff.mp hv)
    obtain ⟨k, tk, h1, _⟩ := g e he
    exact ⟨k, tk, by rw [← q]; exact h1⟩
  have pk : (vs.map fun v => keyS (0, v)).Perm (es.toList.map keyS) := by
    have q := pm.map fun v => keyS (0, v)
    rw [List.map_map] at q
    exact q
  refine wpAny_bind (wpAny_newList ?_ (by rw [hvl, sizeLine_eq]; omega))
  have hoL : (s1.heap.push (seqObj "list" vs.toArray 0)).get? s1.heap.objs.size = some (seqObj "list" vs.toArray 0) := Heap.get?_push_size _ rfl
  refine wpAny_bind (wpAny_holding (wpAny_call_entry slot_list_sort ⟨_, hoL, rfl⟩ entry_list_sort (list_sort_treeKAny strKind_oneLt hoL hS.keysOf (fun v₁ v₂ rest e => keyKind_strs (by rw [← e]; exact hS)) (by rw [hvl, sizeLine_eq]; omega) fun st' hp hs => ⟨_, rfl, ?_⟩) (args_list_sort _)))
  obtain ⟨ys, a1, a2, a3⟩ := sorted_out_str hS hp hs
  obtain ⟨c, hc⟩ := sortedHeap_at (vs := vs) (out := (arrOf st').map (·.2)) hoL
  have pn : ys.Perm (es.toList.map keyS) := a2.trans pk
  refine wpAny_pure ⟨_, rfl, hQ _ s1.heap.objs.size _ c ys (fun b u e => ?_) g1 o1 hz hc a1 a3 (pn.nodup_iff.mpr nd) (fun k => by rw [pn.mem_iff, hm k]) ?_⟩
  · have q := k1 b u e
    have hlt := Heap.lt_size q
    show (sortedHeap (s1.heap.push (seqObj "list" vs.toArray 0)) s1.heap.objs.size vs _).get? b = some u
    rw [sortedHeap_old (Nat.ne_of_lt hlt) (by rw [size_push']; exact Nat.lt_succ_of_lt hlt)]
    exact Heap.get?_push_of_some _ q
  · rw [pn.length_eq, List.length_map, Array.length_toList]
    omega
end
/-- the set of texts at a -/
def SetGO (P : Program) (w : World) (a : Addr) (ks : List Str) : HO := .ext fun h => SetG P w h a ks
section
variable {X : Cx}
theorem setGO_new {w : World} {P : Program} {H : Hp} {h : Heap} {a : Addr} {ks : List Str} (R : SetG P w h a ks) : ObjOk P w H h a (SetGO P w a ks) := by
  have ⟨o, _, _, _, ho, _⟩ := R
  exact ⟨R, ⟨o, ho⟩, fun h1 h2 p k => SetG.at_ p k⟩
/-- set(xs), texts -/
theorem cr_setG (hc : X.calm = true) : CallR X (.type "set") (fun vs H Q => ∃ (l : Addr) (xs : List Str), vs = [.ref l] ∧ SqL X.K H l (xs.map V.str) ∧ xs.length ≤ 4000 ∧ ∀ p, H p = none → Q (.ref p) (upd H p (SetGO X.prog X.w p xs))) := by
  intro pins s σ H vs us Q I r h
  obtain ⟨l, xs, rfl, hs, hz, q⟩ := h
  obtain ⟨its, rv, hl, _⟩ := I.list hs
  rw [Vals.ref1 r]
  refine call_set_strs (I.ok.hd hc) hl.isList rv.strs (by show xs.length + 2 < 4096; omega) fun h' tk R hk => ?_
  exact ⟨.ref s.heap.objs.size, upd H s.heap.objs.size (SetGO X.prog X.w s.heap.objs.size xs), I.laid (t' := tk) hk (Nat.le_refl _) (setGO_new R), rfl, q _ (I.hok.fresh (Nat.le_refl _))⟩
/-- sorted(a set of texts) -/
theorem cr_sortedG (hc : X.calm = true) : CallR X (.builtin "sorted") (fun vs H Q => ∃ (a : Addr) (ks : List Str), vs = [.ref a] ∧ H a = some (SetGO X.prog X.w a ks) ∧
    ∀ (ys : List Str) (p : Addr), sortedS ys = true → ys.Nodup → (∀ k, k ∈ ys ↔ k ∈ ks) → H p = none → Q (.ref p) (upd H p (.lst (ys.map V.str)))) := by
  intro pins s σ H vs us Q I r h
  obtain ⟨a, ks, rfl, ha, q⟩ := h
  have R : SetG X.prog X.w s.heap a ks := (I.hok a _ ha).1
  rw [Vals.ref1 r]
  refine sorted_setG R (I.ok.hd hc) fun s' p out c ys k g o hp hg hi hs hn hm hl => ?_
  have hlen : (ys.map V.str).length ≤ sizeLine := by rw [List.length_map, sizeLine_eq]; omega
  have hn' : H p = none := I.hok.fresh hp
  have J : Inv X pins σ (upd H p (.lst (ys.map V.str))) { s with heap := s'.heap, gens := s'.gens, drawn := s'.drawn, toks := s'.toks } :=
    I.call (ch := []) (Un.laid k hp hn') (I.hok.laid k hp ⟨hlen, out.toList, c, vals_of_strs hi, hg⟩) (by rw [g]; exact I.bare) (fun _ z => nomatch z)
  have e : s' = { s with heap := s'.heap, gens := s'.gens, drawn := s'.drawn, toks := s'.toks } := by
    cases s'
    cases s
    cases o
    rfl
  rw [e]
  exact ⟨.ref p, _, J, rfl, q ys p hs hn hm hn'⟩
end
end KT

/-! sum(a list of lists, []) -/
namespace KT
open PySem PySem.Spec PyProof.Rows L2
theorem sub_lst_str : isSubtype (.type "list") (.type "str") = pure false := by rw [isSubtype_type]; kernel_rfl
theorem sub_lst_bytes : isSubtype (.type "list") (.type "bytes") = pure false := by rw [isSubtype_type]; kernel_rfl
theorem sub_lst_bytearray : isSubtype (.type "list") (.type "bytearray") = pure false := by rw [isSubtype_type]; kernel_rfl
theorem args_sum2 (a b : Value) : argsOk "sum" ⟨[a, b], []⟩ := by unfold argsOk; kernel_rfl
def Inner (h : Heap) (its : Array Value) (xss : List (List Value)) : Prop := ∀ (i : Nat) (v : Value), its[i]? = some v → ∃ (a : Addr) (n : Nat) (xs : List Value), v = .ref a ∧ xss[i]? = some xs ∧ IsL h a xs.toArray n
section
variable {prog : Program} {w : World} {A : Around} {R : Result → Shared → Prop} {I l : Addr} {its : Array Value} {xss : List (List Value)}
theorem loop_sumL (hh : A.handled = none) (hne : l ≠ I) (hl : xss.length = its.size) (hz : xss.flatten.length ≤ sizeLine) (S T0 b0 : Addr) (hSI : S ≠ I) (hSl : S ≠ l) (hb : b0 ≤ S) (hI : b0 ≤ I) :
    ∀ (k i : Nat) (s : Shared) (T : Addr) (c cT : Nat), its.size - i = k → i ≤ its.size → (s.heap.IsListIter I l i ∧ s.heap.IsList l its) → s.heap.get? S = some { cls := .type "list", dict := none, data := .seq #[.ref T] c, slots := #[] } →
    IsL s.heap T (xss.take i).flatten.toArray cT → T ≠ S → T ≠ I → (i = 0 ∧ T = T0 ∨ b0 ≤ T) →
    (∀ (j : Nat) (v : Value), its[j]? = some v → ∃ (a : Addr) (n : Nat) (xs : List Value), v = .ref a ∧ a ≠ S ∧ a ≠ I ∧ xss[j]? = some xs ∧ IsL s.heap a xs.toArray n) →
    (∀ h' tk T' c', (∀ b o, b ≠ I → b ≠ S → s.heap.get? b = some o → h'.get? b = some o) → (its.size = 0 ∧ T' = T0 ∨ b0 ≤ T') → IsL h' T' xss.flatten.toArray c' → R (.ok (.ret (.ref T'))) { s with heap := h', toks := tk }) →
    codeAny (model prog w) A (.builtin "sum.loop" ⟨[.ref I, .ref S, rawInt 2, rawInt 0], []⟩) R s := by
  have W := Walks.list (prog := prog) (w := w) (A := A.in1) hh I l hne its
  intro k
  induction k with
  | zero =>
    intro i s T c cT hk hi hst hS hT hTS hTI hT0 hin hR
    have hin : i = its.size := by omega
    subst hin
    refine codeAny_builtin F.entry_sum_loop ?_
    rw [Around.under_plainId F.plain_sum_loop _]
    show wpAny _ A.in1 (seqItems? (.ref S) >>= _) _ _ s
    refine wpAny_bind (wpAny_seqItems hS rfl ?_)
    show wpAny _ A.in1 (tryCatch (pyNext (.ref I)) _ >>= _) _ _ s
    refine wpAny_bind (wpAny_tryCatch (W.done s _ _ hst fun h' tk hk' => ?_))
    have hk2 : ∀ b o, b ≠ I → s.heap.get? b = some o → h'.get? b = some o := fun b o hb e => hk' b o (by simpa using hb) e
    refine wpAny_pure (hR h' tk T cT (fun b o hbI _ e => hk2 b o hbI e) hT0 ?_)
    rw [← hl, List.take_length] at hT
    exact hk2 T _ hTI hT
  | succ k ih =>
    intro i s T c cT hk hi hst hS hT hTS hTI hT0 hin hR
    have hlt : i < its.size := by omega
    refine codeAny_builtin F.entry_sum_loop ?_
    rw [Around.under_plainId F.plain_sum_loop _]
    show wpAny _ A.in1 (seqItems? (.ref S) >>= _) _ _ s
    refine wpAny_bind (wpAny_seqItems hS rfl ?_)
    show wpAny _ A.in1 (tryCatch (pyNext (.ref I)) _ >>= _) _ _ s
    refine wpAny_bind (wpAny_tryCatch (W.item i s _ _ hlt hst fun v h' tk hP hst' hk' => ?_))
    have hk2 : ∀ b o, b ≠ I → s.heap.get? b = some o → h'.get? b = some o := fun b o hb e => hk' b o (by simpa using hb) e
    obtain ⟨a, n, xs, rfl, haS, haI, hxs, hax⟩ := hin i v hP
    have hS' := hk2 S _ hSI hS
    have hT' : IsL h' T (xss.take i).flatten.toArray cT := hk2 T _ hTI hT
    have hax' : IsL h' a xs.toArray n := hk2 a _ haI hax
    have fl : (xss.take (i + 1)).flatten = (xss.take i).flatten ++ xs := by rw [List.take_add_one, hxs, List.flatten_append]; simp
    have hsz : (xss.take i).flatten.toArray.size + xs.toArray.size ≤ sizeLine := by
      have q : (xss.take (i + 1)).flatten.length ≤ xss.flatten.length := by
        conv => rhs; rw [← List.take_append_drop (i + 1) xss, List.flatten_append, List.length_append]
        omega
      rw [fl, List.length_append] at q
      rw [List.size_toArray, List.size_toArray]
      omega
    show wpAny _ A.in1 ((holding [Value.ref a] (binaryOp .Add (.ref T) (.ref a))).attempt >>= _) _ _ _
    refine wpAny_bind (wpAny_attempt (wpAny_holding (PySem.P.add_list hT' hax' ?_ hsz)))
    generalize hp : Heap.push h' { cls := .type "list", data := .seq ((xss.take i).flatten.toArray ++ xs.toArray) } = h2
    have hpo : ∀ b o, h'.get? b = some o → h2.get? b = some o := fun b o e => by rw [← hp]; exact Heap.get?_push_of_some _ e
    have hN : IsL h2 h'.objs.size ((xss.take (i + 1)).flatten).toArray 0 := by
      rw [fl, ← hp]
      have e : ((xss.take i).flatten ++ xs).toArray = (xss.take i).flatten.toArray ++ xs.toArray := by simp
      rw [e]
      exact Heap.get?_push_size _ rfl
    have hS2 := hpo S _ hS'
    have ltS : S < h'.objs.size := Heap.lt_size hS'
    have ltI : I < h'.objs.size := by obtain ⟨o, e, _⟩ := hst'.1; exact Heap.lt_size e
    have ltl : l < h'.objs.size := by obtain ⟨o, e, _⟩ := hst'.2; exact Heap.lt_size e
    show wpAny _ A.in1 (updateSeq S (fun _ => #[.ref h'.objs.size]) >>= _) _ _ _
    refine wpAny_bind (wpAny_updateSeq (s := { s with heap := h2, toks := tk }) hS2 rfl ?_)
    have hS3 := Heap.get?_update_self (Obj.mapSeq fun _ => #[Value.ref h'.objs.size]) hS2 rfl
    refine wpAny_bind (wpAny_letGo ?_)
    refine wpAny_bind (wpAny_updateSeq (s := { s with heap := h2.update S (Obj.mapSeq fun _ => #[Value.ref h'.objs.size]), toks := tk }) hS3 rfl ?_)
    have old : ∀ b o, b ≠ S → h'.get? b = some o → ((h2.update S (Obj.mapSeq fun _ => #[Value.ref h'.objs.size])).update S (Obj.mapSeq fun _ => #[Value.ref h'.objs.size])).get? b = some o := fun b o hb e =>
      (Heap.get?_update_other _ _ (Ne.symm hb)).trans ((Heap.get?_update_other _ _ (Ne.symm hb)).trans (hpo b o e))
    refine wpAny_pure ⟨plainId_quiet F.plain_sum_loop _, ih (i + 1) _ h'.objs.size _ 0 (by omega) hlt ⟨hst'.1.at fun o e => old I o hSI.symm e, hst'.2.at fun o e => old l o hSl.symm e⟩ (Heap.get?_update_self _ hS3 rfl) ?_ (Nat.ne_of_gt ltS) (Nat.ne_of_gt ltI) (.inr (Nat.le_trans hb (Nat.le_of_lt ltS))) (fun j v hj => ?_) fun h'' tk'' T' c' hk'' hb' hT'' => ?_⟩
    · exact (Heap.get?_update_other _ _ (Nat.ne_of_lt ltS)).trans ((Heap.get?_update_other _ _ (Nat.ne_of_lt ltS)).trans hN)
    · obtain ⟨a', n', xs', e1, e2, e3, e4, e5⟩ := hin j v hj
      exact ⟨a', n', xs', e1, e2, e3, e4, old a' _ e2 (hk2 a' _ e3 e5)⟩
    · exact hR h'' tk'' T' c' (fun b o hbI hbS e => hk'' b o hbI hbS (old b o hbS (hk2 b o hbI e))) hb' hT''
end
section
variable {prog : Program} {w : World} {A : Around} {E : Value → Shared → Prop} {s : Shared} {l T0 : Addr} {its : Array Value} {xss : List (List Value)}
theorem call_sumL {Q : Value → Shared → Prop} {c0 : Nat} (hh : A.handled = none) (hl : s.heap.IsList l its) (hi : Inner s.heap its xss) (hlen : xss.length = its.size) (hz : xss.flatten.length ≤ sizeLine) (h0 : IsL s.heap T0 #[] c0)
    (h : ∀ h' tk T' c', (∀ b o, s.heap.get? b = some o → h'.get? b = some o) → (its.size = 0 ∧ T' = T0 ∨ s.heap.objs.size ≤ T') → IsL h' T' xss.flatten.toArray c' → Q (.ref T') { s with heap := h', toks := tk }) :
    wpAny (model prog w) A (call (.builtin "sum") [.ref l, .ref T0]) Q E s := by
  refine call_function_tree F.kind_sum F.plain_sum F.entry_sum (args_sum2 _ _) ?_
  unfold Builtin.«sum»
  simp only [List.length_cons, List.length_nil]
  rw [if_neg (by decide)]
  refine wpAny_bind (wpAny_of_eq (show Builtin.Builtins.bindParams "sum" ["start"] 0 ⟨[.ref T0], []⟩ = pure [some (.ref T0)] from rfl) ?_)
  have hlt : l < s.heap.objs.size := by obtain ⟨_, e, _⟩ := hl; exact Heap.lt_size e
  refine wpAny_bind (wpAny_pyIter_list hl ?_)
  refine wpAny_bind (wpAny_pure ?_)
  generalize hp : s.heap.push { cls := .type "list_iterator", data := .fields #[.ref l, .int 0 0] } = h2
  have hpo : ∀ b o, s.heap.get? b = some o → h2.get? b = some o := fun b o e => by rw [← hp]; exact Heap.get?_push_of_some _ e
  have hIt : h2.IsListIter s.heap.objs.size l 0 := by rw [← hp]; exact ⟨_, Heap.get?_push_size _ rfl, rfl, rfl⟩
  have hT : Shared.TypeIs { s with heap := h2 } (.ref T0) "list" := ⟨_, hpo _ _ h0, rfl⟩
  have s2 : h2.objs.size = s.heap.objs.size + 1 := by rw [← hp]; exact Heap.size_push ..
  simp only [List.forIn_cons, List.forIn_nil]
  refine wpAny_bind (wpAny_bind (wpAny_bind (wpAny_isInstance (T := "list") (b := false) hT sub_lst_str ?_)))
  simp only [Bool.false_eq_true, if_false]
  refine wpAny_pure (wpAny_bind (wpAny_bind (wpAny_isInstance (T := "list") (b := false) hT sub_lst_bytes ?_)))
  simp only [Bool.false_eq_true, if_false]
  refine wpAny_pure (wpAny_bind (wpAny_bind (wpAny_isInstance (T := "list") (b := false) hT sub_lst_bytearray ?_)))
  simp only [Bool.false_eq_true, if_false]
  refine wpAny_pure (wpAny_pure ?_)
  refine wpAny_bind (wpAny_newObj_type ?_)
  have lt0 : T0 < s.heap.objs.size := Heap.lt_size h0
  have n1 : s.heap.objs.size < h2.objs.size := by rw [s2]; exact Nat.lt_succ_self _
  have po : ∀ b o, s.heap.get? b = some o → (h2.push { cls := .type "list", dict := none, data := .seq #[.ref T0] 0, slots := #[] }).get? b = some o := fun b o e => Heap.get?_push_of_some _ (hpo b o e)
  refine wpAny_pure ⟨plainId_quiet F.plain_sum_loop _, loop_sumL (xss := xss) hh (Nat.ne_of_lt hlt) hlen hz h2.objs.size T0 s.heap.objs.size (Nat.ne_of_gt n1) (Nat.ne_of_gt (Nat.lt_trans hlt n1)) (Nat.le_of_lt n1) (Nat.le_refl _) its.size 0 _ T0 0 c0 (by omega) (Nat.zero_le _)
    ⟨hIt.at fun o e => Heap.get?_push_of_some _ e, hl.at fun o e => po _ _ e⟩ (Heap.get?_push_size _ rfl) (by simpa using po _ _ h0) (Nat.ne_of_lt (Nat.lt_trans lt0 n1)) (Nat.ne_of_lt lt0) (.inl ⟨rfl, rfl⟩) (fun j v hj => ?_) fun h' tk T' c' hk hb hT' => ?_⟩
  · obtain ⟨a, n, xs, e1, e2, e3⟩ := hi j v hj
    have := Heap.lt_size e3
    exact ⟨a, n, xs, e1, Nat.ne_of_lt (Nat.lt_trans this n1), Nat.ne_of_lt this, e2, po _ _ e3⟩
  · refine h h' tk T' c' (fun b o e => ?_) hb hT'
    have := Heap.lt_size e
    exact hk b o (Nat.ne_of_lt this) (Nat.ne_of_lt (Nat.lt_trans this n1)) (po b o e)
end
end KT

namespace KT
open PySem PySem.Spec PyProof.Rows L2
section
variable {X : Cx}
theorem inner_of {pins : List (Addr × Obj)} {σ : L2.St} {H : Hp} {s : Shared} (I : Inv X pins σ H s) : ∀ {as : List Addr} {yss : List (List V)}, Paired (fun (a : Addr) (ys : List V) => H a = some (.lst ys)) as yss →
    ∃ xss : List (List Value), xss.length = as.length ∧ Vals yss.flatten xss.flatten ∧ ∀ (j : Nat) (a : Addr), as[j]? = some a → ∃ (n : Nat) (xs : List Value), xss[j]? = some xs ∧ IsL s.heap a xs.toArray n
  | [], [], .nil => ⟨[], rfl, .nil, fun j a e => by simp at e⟩
  | a :: as, ys :: yss, .cons h t => by
    obtain ⟨xss, h1, h2, h3⟩ := inner_of I t
    obtain ⟨_, its, n, rv, g⟩ := I.hok a _ h
    refine ⟨its :: xss, by simp [h1], by rw [List.flatten_cons, List.flatten_cons]; exact rv.append h2, fun j b e => ?_⟩
    match j, e with
    | 0, e =>
      obtain rfl := Option.some.inj e
      exact ⟨n, its, rfl, g⟩
    | j + 1, e => exact h3 j b (by simpa using e)
/-- sum(xs, []), xs a list of lists, not empty -/
theorem cr_sumL (hc : X.calm = true) : CallR X (.builtin "sum") (fun vs H Q => ∃ (l e : Addr) (as : List Addr) (yss : List (List V)), vs = [.ref l, .ref e] ∧ H l = some (.lst (as.map V.ref)) ∧ H e = some (.lst []) ∧ as ≠ [] ∧
    Paired (fun (a : Addr) (ys : List V) => H a = some (.lst ys)) as yss ∧ yss.flatten.length ≤ sizeLine ∧ ∀ p, H p = none → Q (.ref p) (upd H p (.lst yss.flatten))) := by
  intro pins s σ H vs us Q I r h
  obtain ⟨l, e, as, yss, rfl, hl, he, hne, hp, hz, q⟩ := h
  obtain ⟨u, v, rfl, ru, rv⟩ := vals2 r
  obtain rfl : u = Value.ref l := ru
  obtain rfl : v = Value.ref e := rv
  obtain ⟨zl, its, n, vl, gl⟩ := I.hok l _ hl
  have ei := refs_at vl
  subst ei
  obtain ⟨_, its0, n0, v0, g0⟩ := I.hok e _ he
  cases v0
  obtain ⟨xss, h1, h2, h3⟩ := inner_of I hp
  have ll : (as.map Value.ref).toArray.size = as.length := by simp
  refine call_sumL (I.ok.hd hc) (xss := xss) (PySem.IsL.isList gl) (fun i v hv => ?_) (by rw [ll, h1]) (by rw [← h2.length]; exact hz) g0 fun h' tk T' c' hk hb hT => ?_
  · rw [List.getElem?_toArray, List.getElem?_map] at hv
    obtain ⟨a, ha, rfl⟩ := Option.map_eq_some_iff.mp hv
    obtain ⟨n', xs, e1, e2⟩ := h3 i a ha
    exact ⟨a, n', xs, rfl, e1, e2⟩
  · have le : s.heap.objs.size ≤ T' := by
      rcases hb with ⟨z, _⟩ | z
      · rw [ll] at z
        exact absurd (List.eq_nil_of_length_eq_zero z) hne
      · exact z
    exact ⟨.ref T', upd H T' (.lst yss.flatten), I.laid (t' := tk) hk le (show ObjOk X.prog X.w _ _ _ (.lst yss.flatten) from ⟨hz, xss.flatten, c', h2, hT⟩), rfl, q T' (I.hok.fresh le)⟩
end
/-! ### calls by keyword alone -/
def tCallK0 (sp : Sp) (gV : List V → List V → List V) (E : XK) (tk : TA) : TE := fun σ H Q => tk σ H fun zs H2 => sp (gV [] zs) H2 Q E
section
variable {X : Cx} {CX : CXT} {k : Nat} {f : Addr} {fd : FuncData} {ps ks : List Str} {sp : Sp} {E : XK} {x : Str} {p pos : Pos} {kws : List Keyword} {tk : TA} {g : List Value → List Value → List Value} {gV : List V → List V → List V}
theorem pe_callK0 (F : FnOk X.prog X.w X.K X.mg X.base CX k f fd ps sp) (hr : Room k X.A) (hg : Gl X x) (hm : X.mg x = some (.ref f)) (hk : PySem.W.keepIn X.K (.ref f) = true) (hb : KBinds X.K fd ps ks g gV) (hx : Passes CX X E)
    (hkw : PK X kws tk) (hall : (backToKw pos (keywordEach kws X.env)).all (·.1.isSome) = true := by rfl) (hks : (backToKw pos (keywordEach kws X.env)).filterMap (·.1) = ks := by rfl)
    (hdb : (x == ("__debug__" : Str)) = false := by decide) (hpl : ((backTo pos (starEach [] X.env)).any (·.1) || (backToKw pos (keywordEach kws X.env)).any (·.1.isNone)) = false := by rfl) :
    PE X (.Call (.Name x p) [] kws pos) (tCallK0 sp gV E tk) := by
  refine ⟨fun pins s σ H Q I h => ?_⟩
  refine wpAny_Call_Name_kw (ld_glob I hg hm ?_ hdb)
  refine PySem.W.callWith_KW0 (h₀ := X.base) I.ok.mod.kin hk hall (thn (hkw.run pos pins s σ H _ I h) fun ws s2 ⟨zs, H2, I2, rz, q2⟩ => ⟨I2.kIn, ?_⟩) hpl
  rw [hks]
  exact run_fnk (us := []) F hr hb hx I2 .nil rz q2
/-- nothing by place, the keywords' values in the order of the parameters by f -/
def gK {α : Type} (f : List α → List α) (us ws : List α) : List α := match us with
  | [] => f ws
  | _ => []
theorem kbinds_mk {K : PySem.W.Frag} {q : Str} {st : Stmt} (F : Fun K x q st f fd) (h1 : ps ≠ []) (fo : ∀ {α : Type}, List α → List α)
    (h : ∀ (kV doc pm : Value) (an : Option Addr) (cdv ct : Value) (ws : List Value), (fo ws).length = ps.length → bindArgs (PySem.W.fnOf x q (defArgs st) (defBody st) (defScope st) .none kV doc pm an cdv ct) ⟨[], ks.zip ws⟩ = pure (ps.zip (fo ws)))
    (hr : ∀ {zs : List V} {ws : List Value}, Vals zs ws → Vals (fo zs) (fo ws)) : KBinds K fd ps ks (gK fo) (gK fo) := by
  obtain ⟨oc, od, kV, doc, pm, an, cdv, ct, osl, rfl, lk, hcd⟩ := F.ex
  refine ⟨fun s us ws _ hl => ?_, fun {vs us zs ws} r rz => ?_⟩
  · cases us with
    | nil => exact .of_eq (h kV doc pm an cdv ct ws hl)
    | cons u us =>
      exact absurd (List.eq_nil_of_length_eq_zero (by rw [← hl]; rfl)) h1
  · cases r with
    | nil => exact hr rz
    | cons _ _ => exact .nil
end
end KT

namespace KT
open PySem PySem.Spec PyProof.Rows L2
section
variable {X : Cx}
/-- x in a tuple, data at any depth -/
def rInDT (K : PySem.W.Frag) (neg : Bool) : R2 := fun x y H Q => ∃ d ds, Dp K H x d ∧ Dp K H y (.tuple ds) ∧ SeqAt.shaped d = true ∧ SeqAt.shaped (.tuple ds) = true ∧ Q (.bl (if neg = true then !ds.any fun z => PyData.eqv z d else ds.any fun z => PyData.eqv z d)) H
theorem op_inDT (hu : X.A.units + 65 < cLine) : OpR X (compareOp .In) (rInDT X.K false) := by
  intro pins s σ H x y v u Q I rx ry h
  obtain ⟨d, ds, hd, he, sd, se, q⟩ := h
  obtain ⟨as, r1⟩ := Dp.reads I d x v hd rx
  obtain ⟨bs, r2⟩ := Dp.reads I (.tuple ds) y u he ry
  exact SeqAt.in_tuple_reads r2 r1 (SeqAt.canLay_of_shaped se) (SeqAt.canLay_of_shaped sd) (room_in_shaped sd hu) ⟨.bl _, H, I, rfl, q⟩
end
end KT

namespace V2
open PySem PySem.Spec PyProof.Rows L2 KT
open PySem.W (Frag)
def D.cls : D → String
  | .s _ => "str"
  | .i _ => "int"
  | .o => "NoneType"
  | .t _ => "tuple"
def D.isStr : D → Bool
  | .s _ => true
  | _ => false
def D.isTup : D → Bool
  | .t _ => true
  | _ => false
def D.isInt : D → Bool
  | .i _ => true
  | _ => false
section
variable {K : Frag} {H : Hp} {v : V} {d : D}
theorem DAt.tyx (h : DAt H v d) : TyX K H v (.type d.cls) := by
  cases h with
  | s h => exact .base (.str _)
  | i n => exact .base (.int n)
  | o => exact .base .non
  | t e _ => exact .base (.tup e)
theorem D.kstr (d : D) : PySem.W.kitOne K (.type d.cls) (.type "str") = some d.isStr := by cases d <;> exact kit_ty (by dsimp only [D.cls, D.isStr]; decide +kernel)
theorem D.ktup (d : D) : PySem.W.kitOne K (.type d.cls) (.type "tuple") = some d.isTup := by cases d <;> exact kit_ty (by dsimp only [D.cls, D.isTup]; decide +kernel)
theorem D.kint (d : D) : PySem.W.kitOne K (.type d.cls) (.type "int") = some d.isInt := by cases d <;> exact kit_ty (by dsimp only [D.cls, D.isInt]; decide +kernel)
theorem D.kbool (d : D) : PySem.W.kitOne K (.type d.cls) (.type "bool") = some false := by cases d <;> exact kit_ty (by dsimp only [D.cls]; decide +kernel)
end
section
variable {P : Program} {w : World} {K : Frag} {mg : Str → Option Value} {base : Heap}
def D.isWord : D → Bool
  | .s z => isWB z
  | _ => false
def spIsWordD : Sp := fun vs H Q _ => ∃ v d, vs = [v] ∧ DAt H v d ∧ ∀ H', Same H H' → Q (.bl d.isWord) H'
theorem abc_iff (c : Nat) : decide (c ∈ abc.cps.toList) = (decide (97 ≤ c) && decide (c ≤ 122)) := by
  rw [Bool.eq_iff_iff, decide_eq_true_eq, Bool.and_eq_true, decide_eq_true_eq, decide_eq_true_eq]
  constructor
  · intro h
    have q : ∀ d ∈ abc.cps.toList, 97 ≤ d ∧ d ≤ 122 := by decide +kernel
    exact q c h
  · intro h
    exact abc_mem h.1 h.2
theorem ok_isWordD {f : Addr} {fd : FuncData} (T : Top K mg "is_word" sIsWord pIsWord f fd) (B : Blt mg) (G : Gbl K mg) : FnOk P w K mg base CX0 1 f fd pIsWord spIsWordD := by
  obtain ⟨tl, gl⟩ := G.letters
  refine T.F.ok scIsWord (fun vs H Q E h => ?_) (fun cdv A outer s H vs Q E hr h => ?_)
  · obtain ⟨_, _, rfl, _⟩ := h
    rfl
  · obtain ⟨v, d, rfl, hd, k⟩ := h
    refine ⟨_, (pss_cons (ps_if (PW.pt (pw_or (pt_not (pt_val (pe_callB call_isi (by rfl) B.isi (by decide +kernel) (pa_cons (pv 0) (pa_cons (pe_bltn (v := .ty "str") (by rfl) B.str_ (by decide +kernel) rfl) pa_nil))))) (pw_or1 (pt_not (pt_chain op_le op_le pe_int (pe_callB call_len_str (by rfl) B.len PySem.boot_len (pa_cons (pv 0) pa_nil)) pe_int))))) (pss_one (ps_ret pe_bl)) pss_nil)
      (pss_one (ps_ret (pe_callB (cr_all rfl) (by rfl) B.all (by decide +kernel) (pa_cons (pe_lc (own := [("letter", 1)]) (g := gName 1) (tt := tYes) rfl scIsWord.nd (pi_str (pv 0)) (blkOk_by (N := nIsWord) (sc := defScope sIsWord) (by decide +kernel)) (fun _ _ _ _ _ => pg_name (i := 1) scIsWord.nd rfl (Or.inl rfl)) (fun _ _ _ _ _ => pts_nil) (fun _ _ _ _ _ => (pe_cmpR op_in_sign (pv 1) (pe_glob (v := .str abc) rfl gl ⟨tl, rfl⟩) (by rfl)))) pa_nil))))), ?_⟩
    refine ⟨_, rfl, _, _, _, _, d.isStr, rfl, .ty "str", hd.tyx, d.kstr, _, rfl, ?_⟩
    cases hd with
    | i n => exact iteT (k _ (Same.refl _))
    | o => exact iteT (k _ (Same.refl _))
    | t e h => exact iteT (k _ (Same.refl _))
    | @s z h =>
      have hl := h.2
      refine iteF ⟨_, rfl, _, rfl, by rw [sizeLine_eq]; omega, _, _, rfl, rfl, _, rfl, ?_⟩
      have e0 : (D.s z).isWord = (decide (1 ≤ z.length) && decide (z.length ≤ 8) && z.cps.toList.all fun c => decide (97 ≤ c) && decide (c ≤ 122)) := rfl
      rw [e0] at k
      by_cases c1 : 1 ≤ z.length
      · rw [decide_eq_true (show (1 : Int) ≤ (z.length : Int) by omega)]
        refine iteT ⟨_, _, rfl, rfl, _, rfl, ?_⟩
        by_cases c2 : z.length ≤ 8
        · rw [decide_eq_true (show (z.length : Int) ≤ 8 by omega)]
          refine iteF ⟨_, rfl, _, rfl, fun D hD => ?_⟩
          rw [decide_eq_true c1, decide_eq_true c2, Bool.true_and, Bool.true_and] at k
          refine lc_it walk_str (fun i H' => H' = upd H D (.lst ((z.cps.toList.take i).map fun c => V.bl (decide (c ∈ abc.cps.toList))))) (by rw [List.take_zero]; rfl) (fun _ _ _ _ => trivial) ?_ ?_
          · rintro i x H' H2 hi rfl ⟨rfl, c, hc, rfl⟩
            have hc' : z.cps.toList[i]? = some c := by rw [Array.getElem?_toList]; exact hc
            refine ⟨rfl, _, rfl, c, abc, rfl, rfl, _, upd_same, ?_, ?_⟩
            · rw [List.length_map, List.length_take, sizeLine_eq]
              have : z.cps.size ≤ 1000000 := hl
              omega
            · rw [upd_upd, List.take_add_one, hc', List.map_append]
              rfl
          · rintro H' rfl
            have lz : z.cps.size = z.cps.toList.length := by simp
            refine ⟨_, z.cps.toList.map fun c => decide (c ∈ abc.cps.toList), rfl, SqL.of (by rw [upd_same, lz, List.take_length, List.map_map]; rfl), ?_⟩
            have e : (z.cps.toList.map fun c => decide (c ∈ abc.cps.toList)).all id = z.cps.toList.all fun c => decide (97 ≤ c) && decide (c ≤ 122) := by
              rw [List.all_map]
              congr 1
              funext c
              exact abc_iff c
            rw [e]
            exact k _ (same_upd hD)
        · rw [decide_eq_false (show ¬ (z.length : Int) ≤ 8 by omega)]
          rw [decide_eq_false c2, Bool.and_false, Bool.false_and] at k
          exact iteT (k _ (Same.refl _))
      · rw [decide_eq_false (show ¬ (1 : Int) ≤ (z.length : Int) by omega)]
        rw [decide_eq_false c1, Bool.false_and, Bool.false_and] at k
        exact iteF ⟨_, rfl, iteT (k _ (Same.refl _))⟩
end
end V2

namespace V2
open PySem PySem.Spec PyProof.Rows L2 KT
open PySem.W (Frag)
theorem hu65 {A : Around} {k : Nat} (hr : Room k A) : A.units + 65 < cLine := by have := hr.un; omega
def D.isSig : D → Bool
  | .t [.s g, _, _] => (sgOf g).isSome
  | _ => false
def D.isKd (d : D) : Bool := d.ty.isSome
theorem signs_any (g : Str) : ([PyData.str "over", .str "then", .str "under"].any fun z => PyData.eqv z (.str g)) = (sgOf g).isSome := by
  have e : ∀ a : Str, PyData.eqv (.str a) (.str g) = decide (g = a) := fun a => by
    simp only [PyData.eqv]
    rw [Bool.eq_iff_iff, beq_iff_eq, decide_eq_true_eq]
    exact eq_comm
  simp only [List.any_cons, List.any_nil, Bool.or_false, e]
  unfold sgOf
  by_cases h1 : g = "over"
  · rw [if_pos h1, decide_eq_true h1]; rfl
  · rw [if_neg h1, decide_eq_false h1]
    by_cases h2 : g = "then"
    · rw [if_pos h2, decide_eq_true h2]; rfl
    · rw [if_neg h2, decide_eq_false h2]
      by_cases h3 : g = "under"
      · rw [if_pos h3, decide_eq_true h3]; rfl
      · rw [if_neg h3, decide_eq_false h3]; rfl
theorem signs_any0 (d : D) (h : d.isStr = false) : ([PyData.str "over", .str "then", .str "under"].any fun z => PyData.eqv z d.py) = false := by
  cases d with
  | s z => cases h
  | i n => simp [D.py, PyData.eqv]
  | o => simp [D.py, PyData.eqv]
  | t l => simp [D.py, PyData.eqv]
theorem isSig_ty {d : D} (h : d.isSig = true) : ∃ g a b, d = .t [.s g, a, b] ∧ d.isKd = (a.isKd && b.isKd) := by
  unfold D.isSig at h
  split at h
  · rename_i g a b
    refine ⟨g, a, b, rfl, ?_⟩
    obtain ⟨g', hg⟩ := Option.isSome_iff_exists.mp h
    simp only [D.isKd, D.ty, tyAll, mkTy]
    cases a.ty <;> cases b.ty <;> simp [hg]
  · cases h
theorem nsig_ty {d : D} (h : d.isSig = false) : d.isKd = d.isWord := by
  cases d with
  | s z =>
    simp only [D.isKd, D.ty, D.isWord]
    cases e : isWB z <;> simp
  | i n => simp [D.isKd, D.ty, D.isWord]
  | o => simp [D.isKd, D.ty, D.isWord]
  | t l =>
    simp only [D.isKd, D.ty, D.isWord]
    cases e : mkTy l (tyAll l) with
    | none => rfl
    | some t =>
      obtain ⟨g, x, y, a, b, rfl, _, _⟩ := mkTy_inv e
      simp [D.isSig, sgOf_str] at h
theorem dep_head {a : D} {r : List D} {n : Nat} (h : (D.t (a :: r)).dep ≤ n + 1) : a.dep ≤ n ∧ depAll r ≤ n := by
  simp only [D.dep, depAll] at h
  omega
section
variable {P : Program} {w : World} {K : Frag} {mg : Str → Option Value} {base : Heap}
def spIsSignedD : Sp := fun vs H Q _ => ∃ v d, vs = [v] ∧ DAt H v d ∧ d.dep ≤ 60 ∧ Q (.bl d.isSig) H
theorem ok_isSignedD {f : Addr} {fd : FuncData} (T : Top K mg "_is_signed" sIsSigned pIsSigned f fd) (B : Blt mg) (G : Gbl K mg) : FnOk P w K mg base CX0 1 f fd pIsSigned spIsSignedD := by
  obtain ⟨sa, gs, hs⟩ := G.signs
  refine T.F.ok scIsSigned (fun vs H Q E h => ?_) (fun cdv A outer s H vs Q E hr h => ?_)
  · obtain ⟨_, _, rfl, _⟩ := h
    rfl
  · obtain ⟨v, d, rfl, hd, hdep, k⟩ := h
    refine ⟨_, pss_one (ps_ret (pe_and (pe_callB call_isi (by rfl) B.isi (by decide +kernel) (pa_cons (pv 0) (pa_cons (pe_bltn (v := .ty "tuple") (by rfl) B.tuple (by decide +kernel) rfl) pa_nil))) (pe_and (pe_cmpR op_eq (pe_callB call_len_seq (by rfl) B.len PySem.boot_len (pa_cons (pv 0) pa_nil)) pe_int (nomark _)) (pe_one (pe_cmpR (KT.op_inDT (hu65 hr)) (pe_ix ix_tup (pv 0) pe_int (fun _ _ => rfl)) (pe_glob (v := .ref sa) rfl gs rfl) (by rfl)))))), ?_⟩
    refine ⟨_, rfl, _, _, _, _, d.isTup, rfl, .ty "tuple", hd.tyx, d.ktup, _, rfl, ?_⟩
    cases hd with
    | s h => exact k
    | i n => exact k
    | o => exact k
    | @t p xs ds e h =>
      have hl := h.length
      refine ⟨_, rfl, p, xs, rfl, .inr (SqT.of e), rfl, _, rfl, ?_⟩
      by_cases c : xs.length = 3
      · rw [decide_eq_true (show (V.int (xs.length : Int)) = V.int 3 by rw [c]; rfl)]
        cases h with
        | nil => simp at c
        | @cons x xs d0 ds h0 h =>
          cases h with
          | nil => simp at c
          | @cons x1 xs d1 ds h1 h =>
            cases h with
            | nil => simp at c
            | @cons x2 xs d2 ds h2 h =>
              cases h with
              | cons _ _ => simp at c
              | nil =>
                have dd := (dep_head (n := 59) hdep).1
                have hp := (DAt.py (K := K) h0).1
                refine ⟨_, rfl, p, _, _, _, rfl, rfl, SqT.of e, atI_nat (j := 0) rfl, d0.py, _, hp, .tup (sqT_any hs) (.cons (.str _) (.cons (.str _) (.cons (.str _) .nil))), DAt.shaped (K := K) h0 (by omega), by decide +kernel, ?_⟩
                rw [if_neg (by decide)]
                cases h0 with
                | s h => rw [show (D.s _).py = PyData.str _ from rfl, signs_any]; exact k
                | i n => rw [signs_any0 _ rfl]; exact k
                | o => rw [signs_any0 _ rfl]; exact k
                | t e h => rw [signs_any0 _ rfl]; exact k
      · rw [decide_eq_false (show ¬ (V.int (xs.length : Int)) = V.int 3 from fun z => c (by injection z with z; omega))]
        have e0 : (D.t ds).isSig = false := by
          unfold D.isSig
          split
          · rename_i g a b heq
            injection heq with heq
            rw [heq] at hl
            exact absurd hl c
          · rfl
        rw [e0] at k
        exact k
def spIsKindD : Sp := fun vs H Q _ => ∃ v d, vs = [v] ∧ DAt H v d ∧ d.dep ≤ 60 ∧ d.size ≤ 1000000 ∧ ∀ H', Same H H' → Q (.bl d.isKd) H'
theorem ok_isKindD {f fs fw : Addr} {fd fds fdw : FuncData} (T : Top K mg "is_kind" sIsKind pIsKind f fd) (TS : Top K mg "_is_signed" sIsSigned pIsSigned fs fds) (TW : Top K mg "is_word" sIsWord pIsWord fw fdw) (B : Blt mg) (G : Gbl K mg) :
    FnOk P w K mg base CX0 2 f fd pIsKind spIsKindD := by
  have GS : FnOk P w K mg base CX0 1 fs fds pIsSigned spIsSignedD := ok_isSignedD TS B G
  have GW : FnOk P w K mg base CX0 1 fw fdw pIsWord spIsWordD := ok_isWordD TW B G
  refine T.F.ok scIsKind (fun vs H Q E h => ?_) (fun cdv A outer s H vs Q E hr h => ?_)
  · obtain ⟨_, _, rfl, _⟩ := h
    rfl
  · obtain ⟨v, d, rfl, hd, hdep, hz, k⟩ := h
    refine ⟨_, (pss_cons (ps_set (i := 1) scIsKind.nd rfl (Or.inl rfl) (pe_lst (pa_cons (pv 0) pa_nil)))
      (pss_cons (ps_while PassesOwn.never (pt_truth (pv 1) (by intro _; rfl))
        (pss_cons (ps_set (i := 2) scIsKind.nd rfl (Or.inl rfl) (pe_bm0 PySem.F.plainAttrs_list PySem.F.slot_list_pop PySem.F.type_list_pop mt_pop (pv 1)))
      (pss_one (ps_if (pt_val (pe_call GS hr rfl TS.g TS.F.kp TS.b .nil pass0 (pa_cons (pv 2) pa_nil))) (pss_one (ps_expr (pe_bm PySem.F.plainAttrs_list PySem.F.slot_list_extend PySem.F.type_list_extend KT.mt_extT (pv 1) (pa_cons (pe_slice sl_tup (pv 2) (po_some pe_int) po_none) pa_nil))))
            (pss_one (ps_if (pt_not (pt_val (pe_call GW hr rfl TW.g TW.F.kp TW.b .nil pass0 (pa_cons (pv 2) pa_nil)))) (pss_one (ps_ret pe_bl)) pss_nil))))))
      (pss_one (ps_ret pe_bl)))), ?_⟩
    refine ⟨v, rfl, by show 1 ≤ sizeLine; rw [sizeLine_eq]; omega, fun W hW => ?_⟩
    refine ⟨fun m σ H' => ∃ (vs : List V) (ds : List D) (v2 : Option V), σ = [some v, some (.ref W), v2] ∧ H' W = some (.lst vs.reverse) ∧ DsAt H' vs ds ∧ sizeAll ds = m ∧ m ≤ 1000000 ∧ (∀ u ∈ ds, u.dep ≤ 60) ∧ d.isKd = ds.all D.isKd ∧ Same H H',
      ⟨d.size, [v], [d], none, rfl, upd_same, .cons (hd.mono (TK.upd_new hW)) .nil, by simp [sizeAll], hz, fun u hu => by rw [List.mem_singleton.mp hu]; exact hdep, by simp, same_upd hW⟩, ?_⟩
    rintro m σ H1 ⟨vs, ds, v2, rfl, hL, hT, rfl, hm, hdp, hall, hs⟩
    refine ⟨_, rfl, _, .inl ⟨_, SqL.of hL, rfl⟩, ?_⟩
    cases hT with
    | nil =>
      have q := k H1 hs
      rw [hall] at q
      exact iteF q
    | @cons y vs u ds h1 h2 =>
      have el : (y :: vs).reverse = vs.reverse ++ [y] := List.reverse_cons
      have c : (!(y :: vs).reverse.isEmpty) = true := by rw [el]; simp
      rw [c]
      have hm' : u.size + sizeAll ds ≤ 1000000 := hm
      have up := u.size_pos
      refine iteT ⟨fun σ' H' => ∃ m' < sizeAll (u :: ds), ∃ (vs : List V) (ds : List D) (v2 : Option V), σ' = [some v, some (.ref W), v2] ∧ H' W = some (.lst vs.reverse) ∧ DsAt H' vs ds ∧ sizeAll ds = m' ∧ m' ≤ 1000000 ∧ (∀ u ∈ ds, u.dep ≤ 60) ∧ d.isKd = ds.all D.isKd ∧ Same H H', fun σ' H' q => q, ?_⟩
      refine ⟨_, rfl, .inl ⟨rfl, _, SqL.of hL⟩, W, _, y, rfl, rfl, hL, by rw [el]; simp, ?_⟩
      have ed : (y :: vs).reverse.dropLast = vs.reverse := by rw [el]; simp
      rw [ed]
      have tk : TK H1 (upd H1 W (.lst vs.reverse)) := TK.upd_lst hL
      have hs' : Same H (upd H1 W (.lst vs.reverse)) := same_over hs hW
      have h1' := h1.mono tk
      rw [List.all_cons] at hall
      refine ⟨y, rfl, y, u, rfl, h1', hdp u List.mem_cons_self, _, rfl, ?_⟩
      cases sg : u.isSig with
      | false =>
        refine iteF ⟨_, rfl, y, u, rfl, h1', fun H2 s2 => ⟨_, rfl, ?_⟩⟩
        rw [nsig_ty sg] at hall
        cases ww : u.isWord with
        | false =>
          rw [ww, Bool.false_and] at hall
          have q := k H2 (hs'.trans s2)
          rw [hall] at q
          exact iteT q
        | true =>
          rw [ww, Bool.true_and] at hall
          exact iteF ⟨sizeAll ds, by show _ < u.size + sizeAll ds; omega, vs, ds, _, rfl, s2 _ _ upd_same, h2.mono (tk.trans (TK.of_same s2)), rfl, by omega, fun z hz => hdp z (List.mem_cons_of_mem _ hz), hall, hs'.trans s2⟩
      | true =>
        obtain ⟨g, a, b, rfl, ek⟩ := isSig_ty sg
        rw [ek] at hall
        have dd := hdp _ List.mem_cons_self
        have da : a.dep ≤ 60 ∧ b.dep ≤ 60 := by
          simp only [D.dep, depAll] at dd
          omega
        have sz : (D.t [.s g, a, b]).size = a.size + b.size + 2 := by simp only [D.size, sizeAll]; omega
        cases h1 with
        | @t p xs _ e h =>
          cases h with
          | @cons x0 xs _ _ k0 h => cases h with
            | @cons x1 xs _ _ k1 h => cases h with
              | @cons x2 xs _ _ k2 h => cases h with
                | nil =>
                  refine iteT ⟨_, rfl, .inl ⟨rfl, _, SqL.of upd_same⟩, _, rfl, _, rfl, p, _, rfl, SqT.of (tk _ _ e), cut_not, fun p' hp => ?_⟩
                  have np : W ≠ p' := ne_of_none upd_same hp
                  have l1 := h2.length
                  have l2 : ds.length ≤ sizeAll ds := by
                    clear hm hm' hall hdp h2 sz k hs l1
                    induction ds with
                    | nil => exact Nat.zero_le _
                    | cons z r ih =>
                      have := z.size_pos
                      simp only [List.length_cons, sizeAll]
                      omega
                  refine ⟨W, p', _, _, rfl, rfl, by rw [upd_ne np, upd_same], SqT.of upd_same, ?_, ?_⟩
                  · show vs.reverse.length + 2 ≤ sizeLine
                    rw [List.length_reverse, sizeLine_eq]
                    omega
                  · have tk2 : TK H1 (upd (upd (upd H1 W (.lst vs.reverse)) p' (.tup [x1, x2])) W (.lst (vs.reverse ++ [x1, x2]))) := (tk.trans (TK.upd_new hp)).trans (TK.upd_lst (by rw [upd_ne np, upd_same]))
                    refine ⟨b.size + (a.size + sizeAll ds), ?_, x2 :: x1 :: vs, b :: a :: ds, _, rfl, ?_, .cons (k2.mono tk2) (.cons (k1.mono tk2) (h2.mono tk2)), rfl, ?_, ?_, ?_, ?_⟩
                    · show _ < (D.t [.s g, a, b]).size + sizeAll ds
                      omega
                    · rw [upd_same]
                      simp
                      rfl
                    · omega
                    · intro z hz
                      rcases List.mem_cons.mp hz with rfl | hz
                      · exact da.2
                      · rcases List.mem_cons.mp hz with rfl | hz
                        · exact da.1
                        · exact hdp z (List.mem_cons_of_mem _ hz)
                    · rw [hall, List.all_cons, List.all_cons, ← Bool.and_assoc, Bool.and_comm b.isKd]
                    · exact same_over (hs'.trans (same_upd hp)) hW
end
end V2

namespace V2
open PySem PySem.Spec PyProof.Rows L2 NdefX LamX KT
open PySem.W (Frag)
theorem DsAt.rev {H : Hp} {vs : List V} {ds : List D} (h : DsAt H vs ds) : DsAt H vs.reverse ds.reverse := by
  induction ds generalizing vs with
  | nil => cases h; exact .nil
  | cons d r ih =>
    cases h with
    | cons a s => rw [List.reverse_cons, List.reverse_cons]; exact (ih s).append (.cons a .nil)
theorem sizeAll_app : ∀ l r : List D, sizeAll (l ++ r) = sizeAll l + sizeAll r
  | [], r => by simp [sizeAll]
  | d :: l, r => by simp only [List.cons_append, sizeAll, sizeAll_app l r]; omega
theorem sizeAll_rev (l : List D) : sizeAll l.reverse = sizeAll l := by
  induction l with
  | nil => rfl
  | cons d r ih => rw [List.reverse_cons, sizeAll_app, ih]; simp only [sizeAll]; omega
theorem len_size : ∀ l : List D, l.length ≤ sizeAll l
  | [] => Nat.zero_le _
  | d :: r => by
    have := d.size_pos
    have := len_size r
    simp only [List.length_cons, sizeAll]
    omega
/-! ### walks from inside, of any trees of data, by any callee -/
def ndAll (nd : D → List D) : List D → List D
  | [] => []
  | d :: r => nd d ++ ndAll nd r
theorem ndAll_app (nd : D → List D) (l r : List D) : ndAll nd (l ++ r) = ndAll nd l ++ ndAll nd r := by
  induction l with
  | nil => rfl
  | cons d l ih => simp only [List.cons_append, ndAll, ih, List.append_assoc]
/-- trees: parts, nodes, which data are such -/
structure Tree (pt nd : D → List D) (Dm : D → Prop) : Prop where
  nd : ∀ u, Dm u → nd u = u :: ndAll nd (pt u).reverse
  sz : ∀ u, Dm u → sizeAll (pt u) < u.size ∧ (pt u).length ≤ 2
  dm : ∀ u, Dm u → ∀ p ∈ pt u, Dm p
inductive RunG (pt : D → List D) : List D → List D → List D → Prop
  | nil {S : List D} : RunG pt S [] S
  | cons {S R S' : List D} {u : D} : RunG pt (S ++ [u]) R S' → RunG pt (S ++ pt u) (u :: R) S'
theorem RunG.inv {pt : D → List D} {S R S' : List D} {u : D} (h : RunG pt S (u :: R) S') : ∃ S0, S = S0 ++ pt u ∧ RunG pt (S0 ++ [u]) R S' := by
  cases h with
  | cons h => exact ⟨_, rfl, h⟩
theorem RunG.end_ {pt : D → List D} {S S' : List D} (h : RunG pt S [] S') : S = S' := by
  cases h
  rfl
theorem Tree.len {pt nd : D → List D} {Dm : D → Prop} (T : Tree pt nd Dm) : ∀ (n : Nat) (u : D), u.size ≤ n → Dm u → (nd u).length ≤ u.size ∧ ∀ x ∈ nd u, Dm x := by
  intro n
  induction n with
  | zero => intro u h; have := u.size_pos; omega
  | succ n ih =>
    intro u h ha
    obtain ⟨ps, _⟩ := T.sz u ha
    have hp := T.dm u ha
    rw [T.nd u ha]
    have key : ∀ l : List D, sizeAll l ≤ n → (∀ p ∈ l, Dm p) → (ndAll nd l).length ≤ sizeAll l ∧ ∀ x ∈ ndAll nd l, Dm x := by
      intro l
      induction l with
      | nil => intro _ _; exact ⟨Nat.le_refl _, fun x hx => by cases hx⟩
      | cons d r ihr =>
        intro hl hk
        simp only [sizeAll] at hl
        obtain ⟨a1, a2⟩ := ih d (by omega) (hk d List.mem_cons_self)
        obtain ⟨b1, b2⟩ := ihr (by omega) fun p hp => hk p (List.mem_cons_of_mem _ hp)
        refine ⟨by simp only [ndAll, List.length_append, sizeAll]; omega, fun x hx => ?_⟩
        rcases List.mem_append.mp hx with hx | hx
        · exact a2 x hx
        · exact b2 x hx
    obtain ⟨a1, a2⟩ := key (pt u).reverse (by rw [sizeAll_rev]; omega) fun p hp' => hp p (List.mem_reverse.mp hp')
    rw [sizeAll_rev] at a1
    refine ⟨by rw [List.length_cons]; omega, fun x hx => ?_⟩
    rcases List.mem_cons.mp hx with e | hx
    · rw [e]; exact ha
    · exact a2 x hx
theorem Tree.run {pt nd : D → List D} {Dm : D → Prop} (T : Tree pt nd Dm) : ∀ (n : Nat) (u : D), u.size ≤ n → Dm u → ∀ (S R S' : List D), RunG pt (S ++ [u]) R S' → RunG pt S ((nd u).reverse ++ R) S' := by
  intro n
  induction n with
  | zero => intro u h; have := u.size_pos; omega
  | succ n ih =>
    intro u h ha S R S' hr
    obtain ⟨ps, _⟩ := T.sz u ha
    have hp := T.dm u ha
    have key : ∀ (l : List D), sizeAll l ≤ n → (∀ p ∈ l, Dm p) → ∀ (S R S' : List D), RunG pt (S ++ l) R S' → RunG pt S ((ndAll nd l.reverse).reverse ++ R) S' := by
      intro l
      induction l with
      | nil => intro _ _ S R S' q; simpa [ndAll] using q
      | cons d r ihr =>
        intro hl hk S R S' q
        simp only [sizeAll] at hl
        have e : (ndAll nd (d :: r).reverse).reverse ++ R = (nd d).reverse ++ ((ndAll nd r.reverse).reverse ++ R) := by
          rw [List.reverse_cons, ndAll_app]
          simp [ndAll]
        rw [e]
        refine ih d (by omega) (hk d List.mem_cons_self) _ _ _ (ihr (by omega) (fun p hp => hk p (List.mem_cons_of_mem _ hp)) _ _ _ ?_)
        rw [List.append_assoc]
        exact q
    have e : (nd u).reverse ++ R = (ndAll nd (pt u).reverse).reverse ++ (u :: R) := by rw [T.nd u ha]; simp
    rw [e]
    exact key (pt u) (by omega) hp _ _ _ (.cons hr)
/-- all but tables stays, nothing goes -/
def ExtS (H H' : Hp) : Prop := ExtN H H' ∧ ∀ b, H' b = none → H b = none
theorem ExtS.refl (H : Hp) : ExtS H H := ⟨ExtN.refl H, fun _ h => h⟩
theorem ExtS.trans {H H1 H2 : Hp} (h : ExtS H H1) (h' : ExtS H1 H2) : ExtS H H2 := ⟨h.1.trans h'.1, fun b e => h.2 b (h'.2 b e)⟩
theorem ExtS.of_same {H H' : Hp} (s : Same H H') : ExtS H H' := ⟨fun b o e _ => s b o e, fun b e => s.free e⟩
theorem ExtS.lst {H H' : Hp} (h : ExtS H H') {b : Addr} {xs : List V} (e : H b = some (.lst xs)) : H' b = some (.lst xs) := h.1 b _ e fun ps z => by cases z
theorem ExtS.tk {H H' : Hp} (h : ExtS H H') : TK H H' := fun p xs e => h.1 p _ e fun ps z => by cases z
theorem ExtS.over {H H' : Hp} {W : Addr} {o : HO} (h : ExtS H H') (n : H W = none) : ExtS H (upd H' W o) := by
  refine ⟨fun b u e m => ?_, fun b e => ?_⟩
  · rw [upd_ne fun z => by rw [z, n] at e; cases e]
    exact h.1 b u e m
  · by_cases z : b = W
    · rw [z]; exact n
    · rw [upd_ne z] at e
      exact h.2 b e
/-- what comes of a node: a relation that bears growth -/
structure Rel (ρ : Type) where
  R : (Addr → Prop) → Hp → V → ρ → Prop
  mono : ∀ {ok ok' : Addr → Prop} {H H' : Hp} {v : V} {r : ρ}, R ok H v r → (∀ a, ok a → ok' a) → (∀ a xs, ok a → H a = some (.lst xs) → H' a = some (.lst xs)) → TK H H' → R ok' H' v r
/-- data, as a relation -/
def relD : Rel D := ⟨fun _ H v d => DAt H v d, fun h _ _ t => h.mono t⟩
section
variable {P : Program} {w : World} {K : Frag} {mg : Str → Option Value} {base : Heap}
def spPartsG (pt : D → List D) (Dm : D → Prop) : Sp := fun vs H Q _ => ∃ v u, vs = [v] ∧ DAt H v u ∧ Dm u ∧ ∀ p us, H p = none → DsAt H us (pt u) → Q (.ref p) (upd H p (.tup us))
def spNodesG (nd : D → List D) (Dm : D → Prop) (fp : Addr) : Sp := fun vs H Q _ => ∃ v d, vs = [v, .ref fp] ∧ DAt H v d ∧ Dm d ∧ d.size ≤ 1000000 ∧
  ∀ (L : Addr) (us : List V) (H' : Hp), Same H H' → H L = none → H' L = some (.lst us) → DsAt H' us (nd d) → Q (.ref L) H'
theorem ok_nodesG {pt nd : D → List D} {Dm : D → Prop} (Tr : Tree pt nd Dm) {f fp : Addr} {fd fdp : FuncData} {xp : Str} {sp_ : Stmt} {pp : List Str} (T : Top K mg "nodes_in" sNodesIn pNodesIn f fd) (TP : Top K mg xp sp_ pp fp fdp) (GP : FnOk P w K mg base CX0 2 fp fdp pp (spPartsG pt Dm)) : FnOk P w K mg base CX0 3 f fd pNodesIn (spNodesG nd Dm fp) := by
  refine T.F.ok scNodesIn (fun vs H Q E h => ?_) (fun cdv A outer s H vs Q E hr h => ?_)
  · obtain ⟨_, _, rfl, _⟩ := h
    rfl
  · obtain ⟨v, t, rfl, ht, hk, hz, k⟩ := h
    refine ⟨_, (pss_cons (ps_set (i := 2) scNodesIn.nd rfl (Or.inl rfl) (pe_lst (pa_cons (pv 0) pa_nil)))
      (pss_cons (ps_set (i := 3) scNodesIn.nd rfl (Or.inl rfl) (pe_lst pa_nil))
      (pss_cons (ps_while PassesOwn.never (pt_truth (pv 2) (by intro _; rfl))
        (pss_cons (ps_set (i := 4) scNodesIn.nd rfl (Or.inl rfl) (pe_bm0 PySem.F.plainAttrs_list PySem.F.slot_list_pop PySem.F.type_list_pop mt_pop (pv 2)))
      (pss_cons (ps_expr (pe_bm PySem.F.plainAttrs_list PySem.F.slot_list_append PySem.F.type_list_append mt_append (pv 3) (pa_cons (pv 4) pa_nil)))
      (pss_one (ps_expr (pe_bm PySem.F.plainAttrs_list PySem.F.slot_list_extend PySem.F.type_list_extend KT.mt_extT (pv 2) (pa_cons (pe_callL (i := 1) (f := fp) GP hr rfl (.inl rfl) TP.F.kp TP.b .nil pass0 (pa_cons (pv 4) pa_nil)) pa_nil)))))))
      (pss_one (ps_ret (pv 3)))))), ?_⟩
    refine ⟨v, rfl, by show 1 ≤ sizeLine; rw [sizeLine_eq]; omega, fun W hW => ⟨by show 0 ≤ sizeLine; exact Nat.zero_le _, fun L hL => ?_⟩⟩
    have nWL : W ≠ L := ne_of_none upd_same hL
    have nL : H L = none := by
      rw [upd_ne nWL.symm] at hL
      exact hL
    have sh : Same H (upd (upd H W (.lst [v])) L (.lst [])) := same_over (same_over (Same.refl H) hW) nL
    obtain ⟨hnl, _⟩ := Tr.len t.size t (Nat.le_refl _) hk
    refine ⟨fun m σ H' => ∃ (vs : List V) (ts : List D) (us : List V) (rs : List D) (v4 : Option V), σ = [some v, some (.ref fp), some (.ref W), some (.ref L), v4] ∧ H' W = some (.lst vs.reverse) ∧ H' L = some (.lst us) ∧ DsAt H' vs ts ∧ DsAt H' us rs ∧ rs ++ ndAll nd ts = nd t ∧ sizeAll ts = m ∧ m ≤ 1000000 ∧ (∀ u ∈ ts, Dm u) ∧ Same H H',
      ⟨t.size, [v], [t], [], [], none, rfl, by rw [upd_ne nWL, upd_same]; rfl, upd_same, .cons (ht.mono (TK.of_same sh)) .nil, .nil, by simp [ndAll], by simp [sizeAll], hz, fun u hu => by rw [List.mem_singleton.mp hu]; exact hk, sh⟩, ?_⟩
    rintro m σ H1 ⟨vs, ts, us, rs, v4, rfl, eW, eL, hT, hR, hn, rfl, hm, hks, hs⟩
    have hlen := congrArg List.length hn
    rw [List.length_append] at hlen
    have lr := hR.length
    refine ⟨_, rfl, _, .inl ⟨_, SqL.of eW, rfl⟩, ?_⟩
    cases hT with
    | nil =>
      refine iteF ⟨_, rfl, k L us H1 hs nL eL ?_⟩
      rw [← hn]
      simpa [ndAll] using hR
    | @cons y vs u ts h1 h2 =>
      have el : (y :: vs).reverse = vs.reverse ++ [y] := List.reverse_cons
      have c : (!(y :: vs).reverse.isEmpty) = true := by rw [el]; simp
      rw [c]
      have hm' : u.size + sizeAll ts ≤ 1000000 := hm
      have fu := hks u List.mem_cons_self
      have hup := Tr.dm u fu
      obtain ⟨ps, pl⟩ := Tr.sz u fu
      refine iteT ⟨fun σ' H' => ∃ m' < sizeAll (u :: ts), ∃ (vs : List V) (ts : List D) (us : List V) (rs : List D) (v4 : Option V), σ' = [some v, some (.ref fp), some (.ref W), some (.ref L), v4] ∧ H' W = some (.lst vs.reverse) ∧ H' L = some (.lst us) ∧ DsAt H' vs ts ∧ DsAt H' us rs ∧ rs ++ ndAll nd ts = nd t ∧ sizeAll ts = m' ∧ m' ≤ 1000000 ∧ (∀ u ∈ ts, Dm u) ∧ Same H H', fun σ' H' q => q, ?_⟩
      refine ⟨_, rfl, .inl ⟨rfl, _, SqL.of eW⟩, W, _, y, rfl, rfl, eW, by rw [el]; simp, ?_⟩
      have ed : (y :: vs).reverse.dropLast = vs.reverse := by rw [el]; simp
      rw [ed]
      have tk : TK H1 (upd H1 W (.lst vs.reverse)) := TK.upd_lst eW
      have eL2 : upd H1 W (.lst vs.reverse) L = some (.lst us) := by rw [upd_ne nWL.symm]; exact eL
      refine ⟨_, rfl, .inl ⟨rfl, _, SqL.of eL2⟩, y, rfl, L, us, y, rfl, rfl, eL2, by rw [sizeLine_eq]; omega, ?_⟩
      have tk2 : TK H1 (upd (upd H1 W (.lst vs.reverse)) L (.lst (us ++ [y]))) := tk.trans (TK.upd_lst eL2)
      have eW2 : upd (upd H1 W (.lst vs.reverse)) L (.lst (us ++ [y])) W = some (.lst vs.reverse) := by rw [upd_ne nWL, upd_same]
      have hs2 : Same H (upd (upd H1 W (.lst vs.reverse)) L (.lst (us ++ [y]))) := same_over (same_over hs hW) nL
      refine ⟨_, rfl, .inl ⟨rfl, _, SqL.of eW2⟩, rfl, y, rfl, y, u, rfl, h1.mono tk2, fu, fun p zs hp hzs => ?_⟩
      have np : W ≠ p := ne_of_none eW2 hp
      have npL : L ≠ p := ne_of_none upd_same hp
      have lz := hzs.length
      have l2 := h2.length
      have l3 := len_size ts
      have up := u.size_pos
      refine ⟨W, p, _, zs, rfl, rfl, by rw [upd_ne np]; exact eW2, SqT.of upd_same, by rw [List.length_reverse, sizeLine_eq]; omega, ?_⟩
      have tz := (TK.upd_new (o := .tup zs) hp).trans (TK.upd_lst (ys := vs.reverse ++ zs) (by rw [upd_ne np]; exact eW2))
      have tk3 := tk2.trans tz
      have hs3 := same_over (o := .lst (vs.reverse ++ zs)) (hs2.trans (same_upd (o := .tup zs) hp)) hW
      have eL4 : upd (upd (upd (upd H1 W (.lst vs.reverse)) L (.lst (us ++ [y]))) p (.tup zs)) W (.lst (vs.reverse ++ zs)) L = some (.lst (us ++ [y])) := by rw [upd_ne nWL.symm, upd_ne npL, upd_same]
      refine ⟨sizeAll (pt u) + sizeAll ts, by show _ < u.size + sizeAll ts; omega, zs.reverse ++ vs, (pt u).reverse ++ ts, us ++ [y], rs ++ [u], _, rfl, by rw [upd_same]; simp, eL4, ((hzs.mono tz).rev).append (h2.mono tk3), (hR.mono tk3).append (.cons (h1.mono tk3) .nil), ?_, by rw [sizeAll_app, sizeAll_rev], by omega, ?_, hs3⟩
      · rw [← hn, ndAll_app]
        show _ = rs ++ (nd u ++ ndAll nd ts)
        rw [Tr.nd u fu]
        simp
      · intro z hz'
        rcases List.mem_append.mp hz' with hz' | hz'
        · exact hup z (List.mem_reverse.mp hz')
        · exact hks z (List.mem_cons_of_mem _ hz')
end
end V2

namespace V2
open PySem PySem.Spec PyProof.Rows L2 KT
open PySem.W (Frag)
/-- a number, a truth value, a text -/
inductive Scl : V → Prop
  | i (n : Int) : Scl (.int n)
  | b (x : Bool) : Scl (.bl x)
  | s (z : Str) : Scl (.str z)
  | o : Scl .non
/-- equal data, to the depth k -/
def SameDt (H : Hp) : Nat → V → V → Prop
  | 0, v, v' => v' = v ∧ Scl v
  | k + 1, v, v' => (v' = v ∧ Scl v) ∨ ∃ a a' xs ys, v = .ref a ∧ v' = .ref a' ∧ ((H a = some (.lst xs) ∧ H a' = some (.lst ys)) ∨ (H a = some (.tup xs) ∧ H a' = some (.tup ys))) ∧ xs.length = ys.length ∧ xs.length ≤ 1000000 ∧
    ∀ (i : Nat) (x y : V), xs[i]? = some x → ys[i]? = some y → SameDt H k x y
theorem SameDt.mono {H H' : Hp} (s : Same H H') : ∀ {k : Nat} {v v' : V}, SameDt H k v v' → SameDt H' k v v'
  | 0, _, _, h => h
  | k + 1, _, _, h => by
    rcases h with h | ⟨a, a', xs, ys, e1, e2, h, hl, hm, hx⟩
    · exact .inl h
    · exact .inr ⟨a, a', xs, ys, e1, e2, h.imp (fun q => ⟨s _ _ q.1, s _ _ q.2⟩) fun q => ⟨s _ _ q.1, s _ _ q.2⟩, hl, hm, fun i x y h1 h2 => (hx i x y h1 h2).mono s⟩
theorem SameDt.up {H : Hp} : ∀ {k : Nat} {v v' : V}, SameDt H k v v' → SameDt H (k + 1) v v'
  | 0, _, _, h => .inl h
  | k + 1, _, _, h => by
    rcases h with h | ⟨a, a', xs, ys, e1, e2, h, hl, hm, hx⟩
    · exact .inl h
    · exact .inr ⟨a, a', xs, ys, e1, e2, h, hl, hm, fun i x y h1 h2 => (hx i x y h1 h2).up⟩
theorem SameDt.le {H : Hp} {k j : Nat} {v v' : V} (h : SameDt H k v v') (l : k ≤ j) : SameDt H j v v' := by
  induction j with
  | zero => obtain rfl : k = 0 := by omega
            exact h
  | succ j ih =>
    by_cases e : k = j + 1
    · rw [← e]; exact h
    · exact (ih (by omega)).up
theorem SameDt.scl {H : Hp} {k : Nat} {v : V} (h : Scl v) : SameDt H k v v := by
  cases k
  · exact ⟨rfl, h⟩
  · exact .inl ⟨rfl, h⟩
theorem SameDt.ty {H : Hp} {v v' : V} {t : Ty} (h : TyAt H v t) : TyAt H v' t → SameDt H t.signs v v' := by
  induction h generalizing v' with
  | w h =>
    intro h'
    cases h'
    exact ⟨rfl, .s _⟩
  | @n p g x y a b e h1 h2 i j =>
    intro h'
    cases h' with
    | @n p' _ x' y' _ _ e' k1 k2 =>
      have q : SameDt H (a.signs + b.signs + 1) (.ref p) (.ref p') := by
        refine .inr ⟨p, p', _, _, rfl, rfl, .inr ⟨e, e'⟩, rfl, by show 3 ≤ 1000000; omega, fun i' u u' h3 h4 => ?_⟩
        match i', h3, h4 with
        | 0, h3, h4 =>
          obtain rfl := Option.some.inj h3
          obtain rfl := Option.some.inj h4
          exact .scl (.s _)
        | 1, h3, h4 =>
          obtain rfl := Option.some.inj h3
          obtain rfl := Option.some.inj h4
          exact (i k1).le (by omega)
        | 2, h3, h4 =>
          obtain rfl := Option.some.inj h3
          obtain rfl := Option.some.inj h4
          exact (j k2).le (by omega)
        | n + 3, h3, h4 => exact absurd h3 (by simp)
      exact q.le (by simp only [Ty.signs]; omega)
theorem walk_zipT {K : Frag} {a b : Addr} {xs ys : List V} {n : Nat} (hn : n = min xs.length ys.length) : Walk (RZ.ItzT K a b) n (fun H => SqT K H a xs ∧ SqT K H b ys) (YPair (fun i => xs[i]?) (fun i => ys[i]?)) := by
  subst hn
  refine ⟨fun i _ hi q => ?_, fun _ q => ⟨xs, ys, q.1, q.2, by omega⟩, fun i H v H' _ q y => ?_⟩
  · have h1 : i < xs.length := by omega
    have h2 : i < ys.length := by omega
    exact ⟨xs, ys, xs[i], ys[i], q.1, q.2, by simp [h1], by simp [h2]⟩
  · obtain ⟨T, x, z, h1, h2, h3, h4, h5⟩ := y
    exact ⟨T, x, z, h1, h2, h3, h4 xs q.1, h5 ys q.2⟩
theorem pe_never {X : Cx} {e : Expr} : PE X e (fun _ _ _ => False) := ⟨fun _ _ _ _ _ _ h => h.elim⟩
section
variable {P : Program} {w : World} {K : Frag} {mg : Str → Option Value} {base : Heap}
def spExact (d : Nat) : Sp := fun vs H Q _ => ∃ v v', vs = [v, v'] ∧ SameDt H d v v' ∧ ∀ H', Same H H' → Q (.bl true) H'
theorem scl_ty {v : V} (h : Scl v) : ∃ (c : String) (bi bb : Bool), (∀ H, TyX K H v (.type c)) ∧ PySem.W.kitAny K (.type c) [.type "list", .type "tuple"] = some false ∧ PySem.W.kitOne K (.type c) (.type "dict") = some false ∧
    PySem.W.kitOne K (.type c) (.type "int") = some bi ∧ PySem.W.kitOne K (.type c) (.type "bool") = some bb ∧ scal v v = true := by
  have f2 : ∀ c : String, kitB c "list" = some false → kitB c "tuple" = some false → PySem.W.kitAny K (.type c) [.type "list", .type "tuple"] = some false := by
    intro c h1 h2
    exact kitAny_cons (kit_ty h1) (fun _ => kitAny_cons (kit_ty h2) (fun _ => kitAny_nil) (fun z => by cases z)) (fun z => by cases z)
  cases h with
  | i n => exact ⟨"int", true, false, fun _ => .base (.int n), f2 _ (by decide +kernel) (by decide +kernel), kit_ty (by decide +kernel), kit_ty (by decide +kernel), kit_ty (by decide +kernel), rfl⟩
  | b x => exact ⟨"bool", true, true, fun _ => .base (.bl x), f2 _ (by decide +kernel) (by decide +kernel), kit_ty (by decide +kernel), kit_ty (by decide +kernel), kit_ty (by decide +kernel), rfl⟩
  | o => exact ⟨"NoneType", false, false, fun _ => .base .non, f2 _ (by decide +kernel) (by decide +kernel), kit_ty (by decide +kernel), kit_ty (by decide +kernel), kit_ty (by decide +kernel), rfl⟩
  | s z => exact ⟨"str", false, false, fun _ => .base (.str z), f2 _ (by decide +kernel) (by decide +kernel), kit_ty (by decide +kernel), kit_ty (by decide +kernel), kit_ty (by decide +kernel), rfl⟩
theorem ok_exact {f : Addr} {fd : FuncData} (T : Top K mg "_law_exact" sLExact pLExact f fd) (B : Blt mg) : ∀ d : Nat, d ≤ 60 → FnOk P w K mg base CX0 (1 + d) f fd pLExact (spExact d)
  | 0, _ => by
    refine T.F.ok scLExact (fun vs H Q E h => ?_) (fun cdv A outer s H vs Q E hr h => ?_)
    · obtain ⟨_, _, rfl, _⟩ := h
      rfl
    · obtain ⟨v, v', rfl, ⟨rfl, hs⟩, k⟩ := h
      refine ⟨_, (pss_cons (ps_if (pt_val (pe_callB call_isiT (by rfl) B.isi (by decide +kernel) (pa_cons (pv 0) (pa_cons (pe_tup (pa_cons (pe_bltn (v := .ty "list") (by rfl) B.list (by decide +kernel) rfl) (pa_cons (pe_bltn (v := .ty "tuple") (by rfl) B.tuple (by decide +kernel) rfl) pa_nil))) pa_nil)))) pss_never pss_nil)
      (pss_cons (ps_if (pt_val (pe_callB call_isi (by rfl) B.isi (by decide +kernel) (pa_cons (pv 0) (pa_cons (pe_bltn (v := .ty "dict") (by rfl) B.dict (by decide +kernel) rfl) pa_nil)))) pss_never pss_nil)
      (pss_cons (ps_set (i := 2) scLExact.nd rfl (Or.inl rfl) (pe_cmpR op_eq (pe_callB call_isi (by rfl) B.isi (by decide +kernel) (pa_cons (pv 0) (pa_cons (pe_bltn (v := .ty "int") (by rfl) B.int (by decide +kernel) rfl) pa_nil))) (pe_callB call_isi (by rfl) B.isi (by decide +kernel) (pa_cons (pv 1) (pa_cons (pe_bltn (v := .ty "int") (by rfl) B.int (by decide +kernel) rfl) pa_nil))) (nomark _)))
      (pss_one (ps_ret (pe_and (pv 2) (pe_and (pe_cmpR op_eq (pe_callB call_isi (by rfl) B.isi (by decide +kernel) (pa_cons (pv 0) (pa_cons (pe_bltn (v := .ty "bool") (by rfl) B.bool_ (by decide +kernel) rfl) pa_nil))) (pe_callB call_isi (by rfl) B.isi (by decide +kernel) (pa_cons (pv 1) (pa_cons (pe_bltn (v := .ty "bool") (by rfl) B.bool_ (by decide +kernel) rfl) pa_nil))) (nomark _)) (pe_one (pe_cmpR op_eq (pv 0) (pv 1) (nomark _)))))))))), ?_⟩
      obtain ⟨c, bi, bb, ty, k1, k2, k3, k4, sc⟩ := scl_ty (K := K) hs
      refine ⟨v', rfl, by show 2 ≤ sizeLine; rw [sizeLine_eq]; omega, fun p hp => ⟨v', p, _, _, _, false, rfl, upd_same, .cons (.ty "list") (.cons (.ty "tuple") .nil), ty _, k1, false, rfl, iteF ?_⟩⟩
      refine ⟨_, rfl, _, _, _, _, false, rfl, .ty "dict", ty _, k2, false, rfl, iteF ?_⟩
      refine ⟨_, rfl, _, _, _, _, bi, rfl, .ty "int", ty _, k3, _, rfl, _, _, _, _, bi, rfl, .ty "int", ty _, k3, rfl, ?_⟩
      refine ⟨_, rfl, true, congrArg V.bl (decide_eq_true rfl), ?_⟩
      refine ⟨_, rfl, _, _, _, _, bb, rfl, .ty "bool", ty _, k4, _, rfl, _, _, _, _, bb, rfl, .ty "bool", ty _, k4, rfl, true, congrArg V.bl (decide_eq_true rfl), ?_⟩
      refine ⟨_, rfl, _, rfl, sc, ?_⟩
      have e : decide (v' = v') = true := decide_eq_true rfl
      rw [e]
      exact k _ (same_upd hp)
  | d + 1, hd => by
    have GE : FnOk P w K mg base CX0 (1 + d) f fd pLExact (spExact d) := ok_exact T B d (by omega)
    refine T.F.ok (k := 1 + d) scLExact (fun vs H Q E h => ?_) (fun cdv A outer s H vs Q E hr h => ?_)
    · obtain ⟨_, _, rfl, _⟩ := h
      rfl
    · obtain ⟨v, v', rfl, hd', k⟩ := h
      refine ⟨_, (pss_cons (ps_if (pt_val (pe_callB call_isiT (by rfl) B.isi (by decide +kernel) (pa_cons (pv 0) (pa_cons (pe_tup (pa_cons (pe_bltn (v := .ty "list") (by rfl) B.list (by decide +kernel) rfl) (pa_cons (pe_bltn (v := .ty "tuple") (by rfl) B.tuple (by decide +kernel) rfl) pa_nil))) pa_nil)))) (pss_cons (ps_set (i := 2) scLExact.nd rfl (Or.inl rfl) (pe_and (pe_cmpR op_eq (pe_callB call_isi (by rfl) B.isi (by decide +kernel) (pa_cons (pv 1) (pa_cons (pe_bltn (v := .ty "list") (by rfl) B.list (by decide +kernel) rfl) pa_nil))) (pe_callB call_isi (by rfl) B.isi (by decide +kernel) (pa_cons (pv 0) (pa_cons (pe_bltn (v := .ty "list") (by rfl) B.list (by decide +kernel) rfl) pa_nil))) (nomark _)) (pe_one (pe_cmpR op_eq (pe_callB call_isi (by rfl) B.isi (by decide +kernel) (pa_cons (pv 1) (pa_cons (pe_bltn (v := .ty "tuple") (by rfl) B.tuple (by decide +kernel) rfl) pa_nil))) (pe_callB call_isi (by rfl) B.isi (by decide +kernel) (pa_cons (pv 0) (pa_cons (pe_bltn (v := .ty "tuple") (by rfl) B.tuple (by decide +kernel) rfl) pa_nil))) (nomark _)))))
      (pss_one (ps_ret (pe_and (pv 2) (pe_and (pe_cmpR op_eq (pe_callB call_len_seq (by rfl) B.len PySem.boot_len (pa_cons (pv 0) pa_nil)) (pe_callB call_len_seq (by rfl) B.len PySem.boot_len (pa_cons (pv 1) pa_nil)) (nomark _)) (pe_one (pe_callB (cr_all rfl) (by rfl) B.all (by decide +kernel) (pa_cons (pe_lc (own := [("a", 3), ("b", 4)]) (g := gTup K 2 (gCons (gName 3) (gCons (gName 4) gNil))) (tt := tYes) rfl scLExact.nd (RZ.pi_zipA (by rfl) B.zip (pa_cons (pv 0) (pa_cons (pv 1) pa_nil))) (blkOk_by (N := nLExact) (sc := defScope sLExact) (by decide +kernel)) (fun _ _ _ _ _ => pg_tup (by rfl) (pgs_cons (pg_name (i := 3) scLExact.nd rfl (Or.inl rfl)) (pgs_cons (pg_name (i := 4) scLExact.nd rfl (Or.inl rfl)) pgs_nil))) (fun _ _ _ _ _ => pts_nil)
            (fun _ _ _ _ _ => (pe_call GE hr rfl T.g T.F.kp T.b .nil pass0 (pa_cons (pv 3) (pa_cons (pv 4) pa_nil))))) pa_nil)))))))) pss_nil)
      (pss_cons (ps_if (pt_val (pe_callB call_isi (by rfl) B.isi (by decide +kernel) (pa_cons (pv 0) (pa_cons (pe_bltn (v := .ty "dict") (by rfl) B.dict (by decide +kernel) rfl) pa_nil)))) pss_never pss_nil)
      (pss_cons (ps_set (i := 2) scLExact.nd rfl (Or.inl rfl) (pe_cmpR op_eq (pe_callB call_isi (by rfl) B.isi (by decide +kernel) (pa_cons (pv 0) (pa_cons (pe_bltn (v := .ty "int") (by rfl) B.int (by decide +kernel) rfl) pa_nil))) (pe_callB call_isi (by rfl) B.isi (by decide +kernel) (pa_cons (pv 1) (pa_cons (pe_bltn (v := .ty "int") (by rfl) B.int (by decide +kernel) rfl) pa_nil))) (nomark _)))
      (pss_one (ps_ret (pe_and (pv 2) (pe_and (pe_cmpR op_eq (pe_callB call_isi (by rfl) B.isi (by decide +kernel) (pa_cons (pv 0) (pa_cons (pe_bltn (v := .ty "bool") (by rfl) B.bool_ (by decide +kernel) rfl) pa_nil))) (pe_callB call_isi (by rfl) B.isi (by decide +kernel) (pa_cons (pv 1) (pa_cons (pe_bltn (v := .ty "bool") (by rfl) B.bool_ (by decide +kernel) rfl) pa_nil))) (nomark _)) (pe_one (pe_cmpR op_eq (pv 0) (pv 1) (nomark _)))))))))), ?_⟩
      rcases hd' with ⟨rfl, hs⟩ | ⟨a, a', xs, ys, rfl, rfl, hk, hl, hm, hx⟩
      · obtain ⟨c, bi, bb, ty, k1, k2, k3, k4, sc⟩ := scl_ty (K := K) hs
        refine ⟨v', rfl, by show 2 ≤ sizeLine; rw [sizeLine_eq]; omega, fun p hp => ⟨v', p, _, _, _, false, rfl, upd_same, .cons (.ty "list") (.cons (.ty "tuple") .nil), ty _, k1, false, rfl, iteF ?_⟩⟩
        refine ⟨_, rfl, _, _, _, _, false, rfl, .ty "dict", ty _, k2, false, rfl, iteF ?_⟩
        refine ⟨_, rfl, _, _, _, _, bi, rfl, .ty "int", ty _, k3, _, rfl, _, _, _, _, bi, rfl, .ty "int", ty _, k3, rfl, ?_⟩
        refine ⟨_, rfl, true, congrArg V.bl (decide_eq_true rfl), ?_⟩
        refine ⟨_, rfl, _, _, _, _, bb, rfl, .ty "bool", ty _, k4, _, rfl, _, _, _, _, bb, rfl, .ty "bool", ty _, k4, rfl, true, congrArg V.bl (decide_eq_true rfl), ?_⟩
        refine ⟨_, rfl, _, rfl, sc, ?_⟩
        have e : decide (v' = v') = true := decide_eq_true rfl
        rw [e]
        exact k _ (same_upd hp)

      · rcases hk with ⟨h1, h2⟩ | ⟨h1, h2⟩
        · have tyA : ∀ p, H p = none → ∀ b zs, H b = some (.lst zs) → TyX K (upd H p (.tup [.ty "list", .ty "tuple"])) (.ref b) (.type "list") := fun p hp b zs e => .base (.lst (show upd H p _ b = _ by rw [upd_ne (ne_of_none e hp)]; exact e))
          refine ⟨.ref a, rfl, by show 2 ≤ sizeLine; rw [sizeLine_eq]; omega, fun p hp => ⟨.ref a, p, _, _, _, true, rfl, upd_same, .cons (.ty "list") (.cons (.ty "tuple") .nil), tyA p hp a xs h1, kitAny_cons (b := true) (kit_ty (by decide +kernel)) (fun z => by cases z) (fun _ => rfl), true, rfl, iteT ?_⟩⟩
          have s1 : Same H (upd H p (.tup [.ty "list", .ty "tuple"])) := same_upd hp
          refine ⟨_, rfl, _, _, _, _, true, rfl, .ty "list", tyA p hp a' ys h2, kit_ty (by decide +kernel), _, rfl, _, _, _, _, true, rfl, .ty "list", tyA p hp a xs h1, kit_ty (by decide +kernel), rfl, true, congrArg V.bl (decide_eq_true rfl), ?_⟩
          refine ⟨_, rfl, _, _, _, _, false, rfl, .ty "tuple", tyA p hp a' ys h2, kit_ty (by decide +kernel), _, rfl, _, _, _, _, false, rfl, .ty "tuple", tyA p hp a xs h1, kit_ty (by decide +kernel), rfl, ?_⟩
          refine ⟨_, rfl, true, congrArg V.bl (decide_eq_true rfl), ?_⟩
          refine ⟨_, rfl, a, xs, rfl, .inl (SqL.of (s1 _ _ h1)), _, rfl, a', ys, rfl, .inl (SqL.of (s1 _ _ h2)), rfl, true, congrArg V.bl (decide_eq_true (by rw [hl])), ?_⟩
          refine ⟨_, rfl, _, rfl, a, a', xs, ys, rfl, .inl ⟨SqL.of (s1 _ _ h1), SqL.of (s1 _ _ h2), fun D hD => ?_⟩⟩
          have sD : Same H (upd (upd H p (.tup [.ty "list", .ty "tuple"])) D (.lst [])) := s1.trans (same_upd hD)
          have nHD : H D = none := s1.free hD
          refine lc_it (walk_zip (n := xs.length) (by omega)) (fun i H' => Same H H' ∧ H' D = some (.lst (List.replicate i (.bl true)))) ⟨sD, upd_same⟩ (fun i H' _ q => ⟨SqL.of (q.1 _ _ h1), SqL.of (q.1 _ _ h2)⟩) ?_ ?_
          · rintro i x H' H2 hi ⟨sI, eD⟩ ⟨Tp, x1, x2, rfl, nT, rfl, g1, g2⟩
            have s2 : Same H' (upd H' Tp (.tup [x1, x2])) := same_upd nT
            refine ⟨Tp, _, rfl, SqT.of upd_same, rfl, _, _, rfl, _, _, rfl, rfl, rfl, ?_⟩
            refine ⟨_, rfl, _, rfl, x1, x2, rfl, (hx i x1 x2 g1 g2).mono (sI.trans s2), fun H3 s3 => ⟨_, s3 _ _ (s2 _ _ eD), by rw [List.length_replicate, sizeLine_eq]; omega, ?_, ?_⟩⟩
            · exact same_over ((sI.trans s2).trans s3) nHD
            · rw [upd_same, ← List.replicate_succ']
          · rintro H' ⟨sI, eD⟩
            refine ⟨D, List.replicate xs.length true, rfl, SqL.of (by rw [eD, List.map_replicate]), ?_⟩
            have e : (List.replicate xs.length true).all id = true := by
              rw [List.all_eq_true]
              intro b hb
              exact (List.mem_replicate.mp hb).2
            rw [e]
            exact k _ sI
        · have tyA : ∀ p, H p = none → ∀ b zs, H b = some (.tup zs) → TyX K (upd H p (.tup [.ty "list", .ty "tuple"])) (.ref b) (.type "tuple") := fun p hp b zs e => .base (.tup (show upd H p _ b = _ by rw [upd_ne (ne_of_none e hp)]; exact e))
          refine ⟨.ref a, rfl, by show 2 ≤ sizeLine; rw [sizeLine_eq]; omega, fun p hp => ⟨.ref a, p, _, _, _, true, rfl, upd_same, .cons (.ty "list") (.cons (.ty "tuple") .nil), tyA p hp a xs h1, kitAny_cons (b := false) (kit_ty (by decide +kernel)) (fun _ => kitAny_cons (b := true) (kit_ty (by decide +kernel)) (fun z => by cases z) (fun _ => rfl)) (fun z => by cases z), true, rfl, iteT ?_⟩⟩
          have s1 : Same H (upd H p (.tup [.ty "list", .ty "tuple"])) := same_upd hp
          refine ⟨_, rfl, _, _, _, _, false, rfl, .ty "list", tyA p hp a' ys h2, kit_ty (by decide +kernel), _, rfl, _, _, _, _, false, rfl, .ty "list", tyA p hp a xs h1, kit_ty (by decide +kernel), rfl, true, congrArg V.bl (decide_eq_true rfl), ?_⟩
          refine ⟨_, rfl, _, _, _, _, true, rfl, .ty "tuple", tyA p hp a' ys h2, kit_ty (by decide +kernel), _, rfl, _, _, _, _, true, rfl, .ty "tuple", tyA p hp a xs h1, kit_ty (by decide +kernel), rfl, ?_⟩
          refine ⟨_, rfl, true, congrArg V.bl (decide_eq_true rfl), ?_⟩
          refine ⟨_, rfl, a, xs, rfl, .inr (SqT.of (s1 _ _ h1)), _, rfl, a', ys, rfl, .inr (SqT.of (s1 _ _ h2)), rfl, true, congrArg V.bl (decide_eq_true (by rw [hl])), ?_⟩
          refine ⟨_, rfl, _, rfl, a, a', xs, ys, rfl, .inr ⟨SqT.of (s1 _ _ h1), SqT.of (s1 _ _ h2), fun D hD => ?_⟩⟩
          have sD : Same H (upd (upd H p (.tup [.ty "list", .ty "tuple"])) D (.lst [])) := s1.trans (same_upd hD)
          have nHD : H D = none := s1.free hD
          refine lc_it (walk_zipT (n := xs.length) (by omega)) (fun i H' => Same H H' ∧ H' D = some (.lst (List.replicate i (.bl true)))) ⟨sD, upd_same⟩ (fun i H' _ q => ⟨SqT.of (q.1 _ _ h1), SqT.of (q.1 _ _ h2)⟩) ?_ ?_
          · rintro i x H' H2 hi ⟨sI, eD⟩ ⟨Tp, x1, x2, rfl, nT, rfl, g1, g2⟩
            have s2 : Same H' (upd H' Tp (.tup [x1, x2])) := same_upd nT
            refine ⟨Tp, _, rfl, SqT.of upd_same, rfl, _, _, rfl, _, _, rfl, rfl, rfl, ?_⟩
            refine ⟨_, rfl, _, rfl, x1, x2, rfl, (hx i x1 x2 g1 g2).mono (sI.trans s2), fun H3 s3 => ⟨_, s3 _ _ (s2 _ _ eD), by rw [List.length_replicate, sizeLine_eq]; omega, ?_, ?_⟩⟩
            · exact same_over ((sI.trans s2).trans s3) nHD
            · rw [upd_same, ← List.replicate_succ']
          · rintro H' ⟨sI, eD⟩
            refine ⟨D, List.replicate xs.length true, rfl, SqL.of (by rw [eD, List.map_replicate]), ?_⟩
            have e : (List.replicate xs.length true).all id = true := by
              rw [List.all_eq_true]
              intro b hb
              exact (List.mem_replicate.mp hb).2
            rw [e]
            exact k _ sI
end
end V2

namespace V2
open PySem PySem.Spec PyProof.Rows L2 LamX KT
open PySem.W (Frag)
/-! ### expressions that come to data -/
/-- from any heap that keeps H0 the expression comes to something that bears d -/
def Yd (t : TE) (σ : L2.St) (H0 : Hp) (d : D) : Prop := ∀ H, Same H0 H → ∀ Q : VK, (∀ v H', Same H H' → DAt H' v d → Q v H') → t σ H Q
def YdA (t : TA) (σ : L2.St) (H0 : Hp) (ds : List D) : Prop := ∀ H, Same H0 H → ∀ Q : List V → Hp → Prop, (∀ vs H', Same H H' → DsAt H' vs ds → Q vs H') → t σ H Q
theorem Yd.mono {t : TE} {σ : L2.St} {H0 H1 : Hp} {d : D} (h : Yd t σ H0 d) (s : Same H0 H1) : Yd t σ H1 d := fun H s1 => h H (s.trans s1)
theorem yd_var {i : Nat} {σ : L2.St} {H0 : Hp} {v : V} {d : D} (e : σ[i]? = some (some v)) (h : DAt H0 v d) : Yd (tVar i) σ H0 d := fun H s Q q => ⟨v, e, q v H (Same.refl H) (h.mono (TK.of_same s))⟩
theorem yd_str {σ : L2.St} {H0 : Hp} {z : Str} (ok : TxtOk z) : Yd (tC (.str z)) σ H0 (.s z) := fun H _ Q q => q _ H (Same.refl H) (.s ok)
theorem yd_int {σ : L2.St} {H0 : Hp} {n : Int} : Yd (tC (.int n)) σ H0 (.i n) := fun H _ Q q => q _ H (Same.refl H) (.i n)
theorem yda_nil {σ : L2.St} {H0 : Hp} : YdA tNil σ H0 [] := fun H _ Q q => q [] H (Same.refl H) .nil
theorem yda_cons {t : TE} {tr : TA} {σ : L2.St} {H0 : Hp} {d : D} {ds : List D} (h : Yd t σ H0 d) (hr : YdA tr σ H0 ds) : YdA (tCons t tr) σ H0 (d :: ds) := fun H s Q q =>
  h H s _ fun v H1 s1 hv => hr H1 (s.trans s1) _ fun vs H2 s2 hvs => q (v :: vs) H2 (s1.trans s2) (.cons (hv.mono (TK.of_same s2)) hvs)
theorem yd_tup {t : TA} {σ : L2.St} {H0 : Hp} {ds : List D} (h : YdA t σ H0 ds) (l : ds.length ≤ 100) : Yd (tTup t) σ H0 (.t ds) := fun H s Q q =>
  h H s _ fun vs H1 s1 hvs => ⟨by rw [hvs.length, sizeLine_eq]; omega, fun p np => q _ _ (s1.trans (same_upd np)) (.t upd_same (hvs.mono (TK.upd_new np)))⟩
theorem yda1 {t : TE} {σ : L2.St} {H0 : Hp} {d : D} (h : Yd t σ H0 d) : YdA (tCons t tNil) σ H0 [d] := yda_cons h yda_nil
theorem yda2 {t u : TE} {σ : L2.St} {H0 : Hp} {d e : D} (h : Yd t σ H0 d) (h' : Yd u σ H0 e) : YdA (tCons t (tCons u tNil)) σ H0 [d, e] := yda_cons h (yda1 h')
theorem yda3 {t u w : TE} {σ : L2.St} {H0 : Hp} {d e f : D} (h : Yd t σ H0 d) (h' : Yd u σ H0 e) (h'' : Yd w σ H0 f) : YdA (tCons t (tCons u (tCons w tNil))) σ H0 [d, e, f] := yda_cons h (yda2 h' h'')
theorem yda4 {t u w x : TE} {σ : L2.St} {H0 : Hp} {d e f g : D} (h : Yd t σ H0 d) (h' : Yd u σ H0 e) (h'' : Yd w σ H0 f) (h3 : Yd x σ H0 g) : YdA (tCons t (tCons u (tCons w (tCons x tNil)))) σ H0 [d, e, f, g] := yda_cons h (yda3 h' h'' h3)
/-- a text, and others behind it -/
theorem yt2 {t : TE} {σ : L2.St} {H0 : Hp} {z : Str} {d : D} (ok : TxtOk z) (h : Yd t σ H0 d) : Yd (tTup (tCons (tC (.str z)) (tCons t tNil))) σ H0 (.t [.s z, d]) := yd_tup (yda2 (yd_str ok) h) (by simp)
theorem yt3 {t u : TE} {σ : L2.St} {H0 : Hp} {z : Str} {d e : D} (ok : TxtOk z) (h : Yd t σ H0 d) (h' : Yd u σ H0 e) : Yd (tTup (tCons (tC (.str z)) (tCons t (tCons u tNil)))) σ H0 (.t [.s z, d, e]) := yd_tup (yda3 (yd_str ok) h h') (by simp)
theorem yt4 {t u w : TE} {σ : L2.St} {H0 : Hp} {z : Str} {d e f : D} (ok : TxtOk z) (h : Yd t σ H0 d) (h' : Yd u σ H0 e) (h'' : Yd w σ H0 f) : Yd (tTup (tCons (tC (.str z)) (tCons t (tCons u (tCons w tNil))))) σ H0 (.t [.s z, d, e, f]) := yd_tup (yda4 (yd_str ok) h h' h'') (by simp)
/-- an item of a tuple of data -/
theorem yd_ixT {K : Frag} {t : TE} {σ : L2.St} {H0 : Hp} {ds : List D} {d : D} {i : Nat} (h : Yd t σ H0 (.t ds)) (e : ds[i]? = some d) : Yd (tOp (rIxT K) t (tC (.int (i : Int)))) σ H0 d := fun H s Q q => h H s _ fun v H1 s1 hv => by
  cases hv with
  | @t p xs _ ex hx =>
    obtain ⟨hi, _⟩ := List.getElem?_eq_some_iff.mp e
    have hl := hx.length
    obtain ⟨x, ee⟩ : ∃ x, xs[i]? = some x := ⟨xs[i], List.getElem?_eq_getElem (by omega)⟩
    obtain ⟨d', e', hd⟩ := hx.at_ ee
    obtain rfl := Option.some.inj (e'.symm.trans e)
    exact ⟨p, xs, (i : Int), x, rfl, rfl, SqT.of ex, atI_nat ee, q x H1 s1 hd⟩
/-- a call, all of whose arguments are data -/
theorem yd_call {sp : Sp} {E : XK} {t : TA} {σ : L2.St} {H0 : Hp} {ds : List D} {d : D} (h : YdA t σ H0 ds) (c : ∀ vs H Q, Same H0 H → DsAt H vs ds → (∀ v H', Same H H' → DAt H' v d → Q v H') → sp vs H Q E) : Yd (tCall sp [] E t) σ H0 d := fun H s Q q =>
  h H s _ fun vs H1 s1 hvs => by
    rw [List.append_nil]
    exact c vs H1 Q (s.trans s1) hvs fun v H' s' hv => q v H' (s1.trans s') hv
theorem gN {i : Nat} {v : V} {σ : L2.St} {H : Hp} {Q : L2.St → Hp → Prop} (h : Q (σ.set i (some v)) H) : gName i v σ H Q := h
/-- name = data -/
theorem yd_set {te : TE} {i : Nat} {u : TS} {D0 : Ends} {σ : L2.St} {H H0 : Hp} {d : D} (y : Yd te σ H0 d) (s : Same H0 H) (q : ∀ v H', Same H H' → DAt H' v d → u D0 (σ.set i (some v)) H') : tSeq (tAsg te (gName i)) u D0 σ H := y H s _ fun v H' s' h => q v H' s' h
theorem yd_ret {te : TE} {D0 : Ends} {σ : L2.St} {H H0 : Hp} {d : D} (y : Yd te σ H0 d) (s : Same H0 H) (q : ∀ v H', Same H H' → DAt H' v d → D0.rt v H') : tRet te D0 σ H := y H s _ fun v H' s' h => q v H' s' h
/-- a list of data, in a new list -/
theorem yda_lst {t : TA} {σ : L2.St} {H H0 : Hp} {ds : List D} {Q : VK} (y : YdA t σ H0 ds) (s : Same H0 H) (l : ds.length ≤ 100) (q : ∀ (L : Addr) vs H', Same H H' → H L = none → H' L = some (.lst vs) → DsAt H' vs ds → Q (.ref L) H') : tLst t σ H Q := y H s _ fun vs H1 s1 hvs => ⟨by rw [hvs.length, sizeLine_eq]; omega, fun L nL => q L vs _ (s1.trans (same_upd nL)) (s1.free nL) upd_same (hvs.mono (TK.upd_new nL))⟩
theorem yda_ret {t : TA} {D0 : Ends} {σ : L2.St} {H H0 : Hp} {ds : List D} (y : YdA t σ H0 ds) (s : Same H0 H) (l : ds.length ≤ 100) (q : ∀ (L : Addr) vs H', Same H H' → H L = none → H' L = some (.lst vs) → DsAt H' vs ds → D0.rt (.ref L) H') : tRet (tLst t) D0 σ H := yda_lst y s l q
theorem tx_over : TxtOk "over" := ⟨by decide +kernel, by decide +kernel⟩
theorem tx_under : TxtOk "under" := ⟨by decide +kernel, by decide +kernel⟩
theorem tx_then : TxtOk "then" := ⟨by decide +kernel, by decide +kernel⟩
end V2

namespace V2
open PySem PySem.Spec PyProof.Rows L2 LamX KT
open PySem.W (Frag)
/-! ### lists of data -/
def YdL (t : TE) (σ : L2.St) (H0 : Hp) (ds : List D) : Prop := ∀ H, Same H0 H → ∀ Q : VK, (∀ (L : Addr) vs H', Same H H' → H' L = some (.lst vs) → DsAt H' vs ds → Q (.ref L) H') → t σ H Q
theorem ydl_lst {t : TA} {σ : L2.St} {H0 : Hp} {ds : List D} (h : YdA t σ H0 ds) (l : ds.length ≤ 100) : YdL (tLst t) σ H0 ds := fun H s Q q => yda_lst h s l fun L vs H' s' _ e hv => q L vs H' s' e hv
theorem ydl_var {i : Nat} {σ : L2.St} {H0 : Hp} {L : Addr} {vs : List V} {ds : List D} (e : σ[i]? = some (some (.ref L))) (eL : H0 L = some (.lst vs)) (h : DsAt H0 vs ds) : YdL (tVar i) σ H0 ds := fun H s Q q => ⟨_, e, q L vs H (Same.refl H) (s _ _ eL) (h.mono (TK.of_same s))⟩
theorem ydl_cat {t u : TE} {σ : L2.St} {H0 : Hp} {ds es : List D} (h : YdL t σ H0 ds) (h' : YdL u σ H0 es) (l : ds.length + es.length ≤ 1000) : YdL (tOp rCat t u) σ H0 (ds ++ es) := fun H s Q q =>
  h H s _ fun L vs H1 s1 e1 d1 => h' H1 (s.trans s1) _ fun M us H2 s2 e2 d2 => ⟨L, M, vs, us, rfl, rfl, s2 _ _ e1, e2, by rw [d1.length, d2.length, sizeLine_eq]; omega, fun p np => q p _ _ ((s1.trans s2).trans (same_upd np)) upd_same (((d1.mono (TK.of_same s2)).append d2).mono (TK.upd_new np))⟩
/-- an index that is known -/
def Yi (t : TE) (σ : L2.St) (H0 : Hp) (i : Int) : Prop := ∀ H, Same H0 H → ∀ Q : VK, Q (.int i) H → t σ H Q
theorem yi_int {σ : L2.St} {H0 : Hp} {i : Int} : Yi (tC (.int i)) σ H0 i := fun _ _ _ q => q
theorem yi_var {i : Nat} {n : Int} {σ : L2.St} {H0 : Hp} (e : σ[i]? = some (some (.int n))) : Yi (tVar i) σ H0 n := fun _ _ _ q => ⟨_, e, q⟩
theorem yd_ixL {K : Frag} {t ti : TE} {σ : L2.St} {H0 : Hp} {ds : List D} {d : D} {i : Nat} (h : YdL t σ H0 ds) (hi : Yi ti σ H0 (i : Int)) (e : ds[i]? = some d) : Yd (tOp (rIxL K) t ti) σ H0 d := fun H s Q q =>
  h H s _ fun L vs H1 s1 e1 d1 => hi H1 (s.trans s1) _ (by
    obtain ⟨hi', _⟩ := List.getElem?_eq_some_iff.mp e
    have hl := d1.length
    obtain ⟨x, ee⟩ : ∃ x, vs[i]? = some x := ⟨vs[i], List.getElem?_eq_getElem (by omega)⟩
    obtain ⟨d', e', hd⟩ := d1.at_ ee
    obtain rfl := Option.some.inj (e'.symm.trans e)
    exact ⟨L, vs, (i : Int), x, rfl, rfl, SqL.of e1, atI_nat ee, q x H1 s1 hd⟩)
theorem ydl_set {te : TE} {i : Nat} {u : TS} {D0 : Ends} {σ : L2.St} {H H0 : Hp} {ds : List D} (y : YdL te σ H0 ds) (s : Same H0 H) (q : ∀ (L : Addr) vs H', Same H H' → H' L = some (.lst vs) → DsAt H' vs ds → u D0 (σ.set i (some (.ref L))) H') : tSeq (tAsg te (gName i)) u D0 σ H := y H s _ fun L vs H' s' e h => q L vs H' s' e h
theorem yd_ret' {te : TE} {D0 : Ends} {σ : L2.St} {H H0 : Hp} {d : D} (y : Yd te σ H0 d) (s : Same H0 H) (q : ∀ v H', Same H H' → DAt H' v d → D0.rt v H') : tRet te D0 σ H := yd_ret y s q
end V2

namespace V2
open PySem PySem.Spec PyProof.Rows L2 NdefX LamX KT
open PySem.W (Frag)
theorem cutV_from {xs : List V} {b : Nat} : cutV xs (some (b : Int)) none = xs.drop b := by
  unfold cutV
  rw [HT.sIx_nat]
  have e : HT.sIx xs.length xs.length none = xs.length := rfl
  rw [e]
  by_cases h : b ≤ xs.length
  · rw [Nat.min_eq_left h]
    exact List.take_of_length_le (by simp)
  · rw [Nat.min_eq_right (by omega), List.drop_of_length_le (by omega : xs.length ≤ b), Nat.sub_self, List.take_zero]
section
variable {P : Program} {w : World} {K : Frag} {mg : Str → Option Value} {base : Heap}
/-- a def of the top whose code object is at c -/
structure TopC (K : Frag) (mg : Str → Option Value) (x : Str) (st : Stmt) (ps : List Str) (f : Addr) (fd : FuncData) (c : Addr) : Prop where
  T : Top K mg x st ps f fd
  ex : ∃ (oc : Value) (od : Option Addr) (kV doc pm : Value) (an : Option Addr) (ct : Value) (osl : Array (Option Value)),
    fd = PySem.W.fnOf x x (defArgs st) (defBody st) (defScope st) .none kV doc pm an (.ref c) ct ∧ K.lookup f = some ⟨oc, od, .func fd, osl⟩ ∧ PySem.W.codeIn K (.ref c) x = true
theorem TopC.fnd {x : Str} {st : Stmt} {ps N : List Str} {f c : Addr} {fd : FuncData} {k : Nat} {sp : Pins → Sp} (T : TopC K mg x st ps f fd c) (S : FnScope N ps (defScope st)) (len : ∀ D vs H Q, sp D vs H Q L2.E0 → vs.length = ps.length)
    (body : ∀ (D : Pins) (B : Around) (outer : List Env) (s : Shared) (H : Hp) (vs : List V) (Q : VK), Room k (B.deeper (envOfC x (defScope st) s.heap.objs.size f (.ref c))) → Dep D outer s H → sp D vs H Q L2.E0 →
      ∃ t, PSs (cxOf L2.CX0 P w K mg base N x (defScope st) f (.ref c) B outer s H L2.E0).nox (defBody st) t ∧ t { nx := fun _ H' => Q .non H', rt := Q } (start N vs) H) : FnD P w K mg base (k + 1) f fd ps sp := by
  obtain ⟨oc, od, kV, doc, pm, an, ct, osl, rfl, lk, hcd⟩ := T.ex
  exact fnd_of lk hcd S len body
end
theorem extn_tk {H H' : Hp} (h : ExtN H H') : TK H H' := fun p xs e => h p _ e fun ps z => by cases z
theorem extn_same {H H' : Hp} (h : Same H H') : ExtN H H' := fun b o e _ => h b o e
theorem extn_lst {b : Addr} {H H' : Hp} {xs : List V} (h : ExtN H H') (e : H b = some (.lst xs)) : H' b = some (.lst xs) := h b _ e fun ps z => by cases z
theorem extn_dK {b : Addr} {H H' : Hp} {xs : List (Key × V)} (h : ExtN H H') (e : H b = some (.dK xs)) : H' b = some (.dK xs) := h b _ e fun ps z => by cases z
theorem extn_over {H H' : Hp} {W : Addr} {o : HO} (h : ExtN H H') (n : H W = none) : ExtN H (upd H' W o) := fun b u e m => by
  rw [upd_ne fun z => by rw [z, n] at e; cases e]
  exact h b u e m
theorem tabs_but {T : List (Addr × Str)} {H H' : Hp} {a : Addr} {o0 : HO} (t : Tabs T H) (e : H a = some o0) (n1 : ∀ ps, o0 ≠ .tbl ps) (n2 : ∀ c q, o0 ≠ CodeO c q) (k : ∀ b o, H b = some o → b ≠ a → H' b = some o) : Tabs T H' := fun p hp => by
  obtain ⟨ps, h1, h2, h3⟩ := t p hp
  refine ⟨ps, k _ _ h1 fun z => ?_, h2, fun pos cv hc => ?_⟩
  · rw [z, e] at h1
    exact n1 ps (Option.some.inj h1)
  · obtain ⟨c, e1, e2⟩ := h3 pos cv hc
    refine ⟨c, e1, k _ _ e2 fun z => ?_⟩
    rw [z, e] at e2
    exact n2 _ _ (Option.some.inj e2)
theorem tabs_lst {T : List (Addr × Str)} {H : Hp} {a : Addr} {xs : List V} {o : HO} (t : Tabs T H) (e : H a = some (.lst xs)) : Tabs T (upd H a o) := tabs_but t e (fun ps z => by cases z) (fun c q z => by cases z) fun b u h n => by rw [upd_ne n]; exact h
theorem DsAt.split {H : Hp} {ts rs : List D} : ∀ {us : List V}, DsAt H us (ts ++ rs) → DsAt H (us.take ts.length) ts ∧ DsAt H (us.drop ts.length) rs := by
  induction ts with
  | nil => intro us h; exact ⟨.nil, h⟩
  | cons t ts ih =>
    intro us h
    cases h with
    | cons h1 h2 =>
      obtain ⟨a, b⟩ := ih h2
      exact ⟨.cons h1 a, b⟩
section
variable {P : Program} {w : World} {K : Frag} {mg : Str → Option Value} {base : Heap}
def spNodeG (T : List (Addr × Str)) (pt : D → List D) (Ok : D → Prop) (H0 : Hp) (fo : D → D) : Sp := fun vs H Q _ => ∃ x u L us, vs = [x, .ref L] ∧ ExtN H0 H ∧ Tabs T H ∧ DAt H x u ∧ Ok u ∧ H L = some (.lst us) ∧ DsAt H us ((pt u).map fo) ∧ ∀ v' H', ExtN H H' → Tabs T H' → DAt H' v' (fo u) → Q v' H'
def spFIG (P : Program) (w : World) (K : Frag) (mg : Str → Option Value) (base : Heap) (m : Nat) (T : List (Addr × Str)) (pt nd : D → List D) (Dm : D → Prop) (fp : Addr) (D' : Pins) : Sp := fun vs H Q _ => ∃ v d f3 fo EX Ok H0, vs = [v, .ref fp, .ref f3] ∧ ExtN H0 H ∧ Tabs T H ∧ DAt H v d ∧ Dm d ∧ d.size ≤ 1000000 ∧ (∀ u ∈ nd d, Ok u) ∧
  Callee P w K mg base m f3 (spNodeG T pt Ok H0 fo) D' EX ∧ ExOk EX H ∧ (∀ p ∈ EX, ∀ ps, p.2 ≠ HO.tbl ps) ∧ ∀ v' H', ExtN H H' → Tabs T H' → DAt H' v' (fo d) → Q v' H'
theorem ok_fromInsideG {T : List (Addr × Str)} {pt nd : D → List D} {Dm : D → Prop} (Tr : Tree pt nd Dm) {m : Nat} (hm3 : 3 ≤ m) {f fn fp c : Addr} {fd fdn fdp : FuncData} {xp : Str} {sp_ : Stmt} {pp : List Str} (TI : TopC K mg "from_inside" sFromInside pFromInside f fd c) (TN : Top K mg "nodes_in" sNodesIn pNodesIn fn fdn) (TP : Top K mg xp sp_ pp fp fdp) (GP : FnOk P w K mg base CX0 2 fp fdp pp (spPartsG pt Dm)) (B : Blt mg) :
    FnD P w K mg base (m + 1) f fd pFromInside (spFIG P w K mg base m T pt nd Dm fp) := by
  have GN : FnOk P w K mg base CX0 3 fn fdn pNodesIn (spNodesG nd Dm fp) := ok_nodesG Tr TN TP GP
  refine TI.fnd scFromInside (fun DD vs H Q h => ?_) (fun DD A outer s H vs Q hr dp h => ?_)
  · obtain ⟨_, _, _, _, _, _, _, rfl, _⟩ := h
    rfl
  · obtain ⟨v, t, f3, fo, EX, Ok, H0, rfl, he0, hT0, ht, hk, hz, hok, C, hx, nx, k⟩ := h
    have hr3 : Room 3 _ := hr.mono hm3
    have hr2 : Room 2 _ := hr3.mono (by decide)
    refine ⟨_, (pss_cons (ps_set (i := 3) scFromInside.nd rfl (Or.inl rfl) (pe_lst pa_nil))
      (pss_cons (ps_for PassesOwn.never rfl (pi_reversed (by rfl) B.reversed (pa_cons (pe_call GN hr3 rfl TN.g TN.F.kp TN.b .nil pass0 (pa_cons (pv 0) (pa_cons (pv 1) pa_nil))) pa_nil)) (pg_name (i := 4) scFromInside.nd rfl (Or.inl rfl))
        (pss_cons (ps_set (i := 5) scFromInside.nd rfl (Or.inl rfl) (pe_op op_sub (pe_callB call_len_seq (by rfl) B.len PySem.boot_len (pa_cons (pv 3) pa_nil)) (pe_callB call_len_seq (by rfl) B.len PySem.boot_len (pa_cons (pe_callL (i := 1) (f := fp) GP hr2 rfl (.inl rfl) TP.F.kp TP.b .nil pass0 (pa_cons (pv 4) pa_nil)) pa_nil))))
      (pss_cons (ps_set (i := 6) scFromInside.nd rfl (Or.inl rfl) (pe_slice sl_list (pv 3) (po_some (pv 5)) po_none))
      (pss_cons (KT.ps_delTail (pv 3) (po_some (pv 5)))
      (pss_one (ps_expr (pe_bm PySem.F.plainAttrs_list PySem.F.slot_list_append PySem.F.type_list_append mt_append (pv 3) (pa_cons (pe_callee (i := 2) C hr rfl dp rfl (.inl rfl) (pa_cons (pv 4) (pa_cons (pv 6) pa_nil))) pa_nil))))))))
      (pss_one (ps_ret (pe_ix ix_list (pv 3) pe_int (fun _ _ => rfl)))))), ?_⟩
    refine ⟨by show 0 ≤ sizeLine; exact Nat.zero_le _, fun W hW => ?_⟩
    have sW : Same H (upd H W (.lst [])) := same_upd hW
    refine ⟨v, rfl, .ref fp, rfl, v, t, rfl, ht.mono (TK.of_same sW), hk, by omega, fun L ns H1 s1 nL eL hT => ?_⟩
    have nWL : W ≠ L := ne_of_none upd_same nL
    have nHL : H L = none := by
      rw [upd_ne nWL.symm] at nL
      exact nL
    have ln := hT.length
    obtain ⟨hnl, hna⟩ := Tr.len t.size t (Nat.le_refl _) hk
    refine ⟨L, ns, rfl, SqL.of eL, ?_⟩
    refine for_it walk_rev (fun i σ H' => ∃ (v4 v5 v6 : Option V) (us : List V) (S : List D), σ = [some v, some (.ref fp), some (.ref f3), some (.ref W), v4, v5, v6] ∧ H' W = some (.lst us) ∧ ExtN H H' ∧ Tabs T H' ∧ H' L = some (.lst ns) ∧ DsAt H' ns (nd t) ∧ DsAt H' us (S.map fo) ∧ S.length ≤ i ∧ RunG pt S ((nd t).reverse.drop i) [t])
      ⟨none, none, none, [], [], rfl, s1 _ _ upd_same, extn_same (sW.trans s1), hT0.ext (sW.trans s1), eL, hT, .nil, Nat.le_refl _, by have q := Tr.run t.size t (Nat.le_refl _) hk [] [] [t] .nil; simpa using q⟩ ?_ ?_ ?_
    · rintro i σ H' hi ⟨_, _, _, _, _, _, _, _, _, e, _⟩
      exact SqL.of e
    · rintro i x σ H' H2 hi ⟨v4, v5, v6, us, S, rfl, eW, hs, hT2, eL', hN, hU, hSi, hR⟩ ⟨rfl, hx'⟩
      obtain ⟨u, hu, hxu⟩ := hN.at_ hx'
      have mu := List.mem_of_getElem? hu
      have lN := hN.length
      have hd : (nd t).reverse.drop i = u :: (nd t).reverse.drop (i + 1) := by
        have q : (nd t).reverse[i]? = some u := by
          rw [List.getElem?_reverse (by omega), ← lN]
          exact hu
        obtain ⟨h1, h2⟩ := List.getElem?_eq_some_iff.mp q
        rw [List.drop_eq_getElem_cons h1, h2]
      rw [hd] at hR
      obtain ⟨S0, rfl, hR'⟩ := hR.inv
      have lU := hU.length
      rw [List.map_append] at hU
      obtain ⟨hU1, hU2⟩ := hU.split
      rw [List.length_map] at hU1 hU2
      rw [List.length_map, List.length_append] at lU
      rw [List.length_append] at hSi
      refine ⟨_, rfl, W, us, rfl, .inl (SqL.of eW), rfl, x, rfl, x, u, rfl, hxu, hna u mu, fun p zs hp hzs => ⟨p, zs, rfl, .inr (SqT.of upd_same), _, _, rfl, rfl, ?_⟩⟩
      have lz := hzs.length
      have e5 : (us.length : Int) - (zs.length : Int) = (S0.length : Int) := by omega
      dsimp only
      rw [e5]
      have np : W ≠ p := ne_of_none eW hp
      have npL : L ≠ p := ne_of_none eL' hp
      have eW1 : upd H2 p (.tup zs) W = some (.lst us) := by rw [upd_ne np]; exact eW
      refine ⟨_, rfl, _, rfl, _, rfl, W, us, rfl, SqL.of eW1, fun q hq => ?_⟩
      rw [cutV_from]
      have nq : W ≠ q := ne_of_none eW1 hq
      have npq : L ≠ q := ne_of_none (show upd H2 p (.tup zs) L = some (.lst ns) by rw [upd_ne npL]; exact eL') hq
      have eW2 : upd (upd H2 p (.tup zs)) q (.lst (us.drop S0.length)) W = some (.lst us) := by rw [upd_ne nq]; exact eW1
      refine ⟨_, rfl, _, rfl, _, rfl, W, us, S0.length, rfl, rfl, eW2, by omega, ?_⟩
      have s23 : Same H2 (upd (upd H2 p (.tup zs)) q (.lst (us.drop S0.length))) := (same_upd hp).trans (same_upd hq)
      have tk : TK H2 (upd (upd (upd H2 p (.tup zs)) q (.lst (us.drop S0.length))) W (.lst (us.take S0.length))) := ((TK.upd_new hp).trans (TK.upd_new hq)).trans (TK.upd_lst eW2)
      have s2 : ExtN H (upd (upd (upd H2 p (.tup zs)) q (.lst (us.drop S0.length))) W (.lst (us.take S0.length))) := extn_over (hs.trans (extn_same s23)) hW
      have T3 : Tabs T (upd (upd (upd H2 p (.tup zs)) q (.lst (us.drop S0.length))) W (.lst (us.take S0.length))) := tabs_lst (hT2.ext s23) eW2
      have nqW : q ≠ W := nq.symm
      have hxx : ExOk EX (upd (upd (upd H2 p (.tup zs)) q (.lst (us.drop S0.length))) W (.lst (us.take S0.length))) := fun r hr => s2 _ _ (hx r hr) (nx r hr)
      refine ⟨_, rfl, .inl ⟨rfl, _, SqL.of upd_same⟩, rfl, hxx, x, rfl, _, rfl, hxx, x, u, q, us.drop S0.length, rfl, he0.trans s2, T3, hxu.mono tk, hok u mu, by rw [upd_ne nqW, upd_same], hU2.mono tk, fun v' H6 s6 T6 hv' => ?_⟩
      have eW6 := extn_lst s6 (upd_same (H := upd (upd H2 p (.tup zs)) q (.lst (us.drop S0.length))) (a := W) (o := .lst (us.take S0.length)))
      refine ⟨W, us.take S0.length, v', rfl, rfl, eW6, by rw [List.length_take, sizeLine_eq]; omega, ?_⟩
      have tk6 : TK H2 H6 := tk.trans (extn_tk s6)
      have tk7 : TK H6 (upd H6 W (.lst (us.take S0.length ++ [v']))) := TK.upd_lst eW6
      refine ⟨_, _, _, us.take S0.length ++ [v'], S0 ++ [u], rfl, upd_same, extn_over (s2.trans s6) hW, tabs_lst T6 eW6, ?_, hN.mono (tk6.trans tk7), ?_, ?_, hR'⟩
      · rw [upd_ne nWL.symm]
        refine extn_lst s6 ?_
        rw [upd_ne nWL.symm, upd_ne npq, upd_ne npL]
        exact eL'
      · rw [List.map_append]
        exact (hU1.mono (tk6.trans tk7)).append (.cons (hv'.mono tk7) .nil)
      · rw [List.length_append, List.length_singleton]
        omega
    · rintro σ H' ⟨v4, v5, v6, us, S, rfl, eW, hs, hT2, eL', hN, hU, hSi, hR⟩
      rw [ln, ← List.length_reverse, List.drop_length] at hR
      obtain rfl := hR.end_
      cases hU with
      | @cons x _ xs _ hx hU =>
        exact ⟨_, rfl, W, _, _, _, rfl, rfl, SqL.of eW, atI_nat (j := 0) rfl, k _ _ hs hT2 hx⟩
end
end V2

namespace V2
open PySem PySem.Spec PyProof.Rows L2 NdefX LamX KT
open PySem.W (Frag)
/-! ### types as trees -/
def Ty.nds : Ty → List Ty
  | .w z => [.w z]
  | .n g a b => .n g a b :: (b.nds ++ a.nds)
def kp : D → List D
  | .t [_, a, b] => [a, b]
  | _ => []
def kn (u : D) : List D := match u.ty with
  | some t => t.nds.map Ty.d
  | none => [u]
def IsTy (u : D) : Prop := ∃ t : Ty, t.wok ∧ u = t.d
theorem kn_d {t : Ty} (h : t.wok) : kn t.d = t.nds.map Ty.d := by unfold kn; rw [t.ty_d h]
theorem treeK : Tree kp kn IsTy := by
  refine ⟨?_, ?_, ?_⟩
  · rintro u ⟨t, h, rfl⟩
    cases t with
    | w z => rw [kn_d h]; rfl
    | n g a b =>
      rw [kn_d h]
      show _ = _ :: (kn b.d ++ (kn a.d ++ []))
      rw [kn_d h.1, kn_d h.2]
      simp [Ty.nds]
  · rintro u ⟨t, h, rfl⟩
    cases t with
    | w z => exact ⟨by simp [Ty.d, kp, sizeAll, D.size], by simp [Ty.d, kp]⟩
    | n g a b => exact ⟨by simp only [Ty.d, kp, sizeAll, D.size]; omega, by simp [Ty.d, kp]⟩
  · rintro u ⟨t, h, rfl⟩ p hp
    cases t with
    | w z => simp [Ty.d, kp] at hp
    | n g a b =>
      simp only [Ty.d, kp, List.mem_cons, List.not_mem_nil, or_false] at hp
      rcases hp with rfl | rfl
      · exact ⟨a, h.1, rfl⟩
      · exact ⟨b, h.2, rfl⟩
def Ty.fold (f : Str → D) (g : Sg → D → D → D) : Ty → D
  | .w z => f z
  | .n s a b => g s (a.fold f g) (b.fold f g)
def foK (f : Str → D) (g : Sg → D → D → D) (u : D) : D := match u.ty with
  | some t => t.fold f g
  | none => u
theorem foK_d {f : Str → D} {g : Sg → D → D → D} {t : Ty} (h : t.wok) : foK f g t.d = t.fold f g := by unfold foK; rw [t.ty_d h]
/-- the tables of code objects -/
structure Tb1 (base : Heap) (mg : Str → Option Value) (T : List (Addr × Str)) (c PX : Addr) (q : Str) : Prop where
  b : TabB base mg c PX
  m : (PX, q) ∈ T
  u : ∀ p ∈ T, p.1 = PX → p.2 = q
abbrev toN (T : List (Addr × Str)) : List NTab := T.map fun p => (p.1, fun _ _ => p.2)
theorem tabsN_of {T : List (Addr × Str)} {H : Hp} (h : Tabs T H) : TabsN (toN T) H := fun q hq => by
  obtain ⟨p, hp, rfl⟩ := List.mem_map.mp hq
  exact TabN.of (h p hp)
theorem tabs_of {T : List (Addr × Str)} {H : Hp} (h : TabsN (toN T) H) : Tabs T H := fun p hp => TabN.to (h (p.1, fun _ _ => p.2) (List.mem_map.mpr ⟨p, hp, rfl⟩))
theorem Tb1.mN {base : Heap} {mg : Str → Option Value} {T : List (Addr × Str)} {c PX : Addr} {q : Str} (t : Tb1 base mg T c PX q) : (PX, fun (_ _ : Nat) => q) ∈ toN T := List.mem_map.mpr ⟨_, t.m, rfl⟩
theorem Tb1.uN {base : Heap} {mg : Str → Option Value} {T : List (Addr × Str)} {c PX : Addr} {q : Str} (t : Tb1 base mg T c PX q) : ∀ p ∈ toN T, p.1 = PX → p.2 = fun _ _ => q := by
  intro r hr e
  obtain ⟨p, hp, rfl⟩ := List.mem_map.mp hr
  show (fun _ _ => p.2) = _
  rw [t.u p hp e]
abbrev sAtPart : Stmt := (L2.defBody sFolded).getD 0 (.Pass ⟨0, 0, 0, 0⟩)
abbrev nAtPart : List Str := ["part", "came", "at_plain", "at_signed"]
theorem scAtPart : NScope nAtPart ["part", "came"] ["at_plain", "at_signed"] (C8.fnScope sAtPart) := nscope_by (by decide +kernel)
section
variable {P : Program} {w : World} {K : Frag} {mg : Str → Option Value} {base : Heap} {T : List (Addr × Str)} {cF PF : Addr}
theorem ok_partsOf {f : Addr} {fd : FuncData} (T : Top K mg "_parts_of" sPartsOf pPartsOf f fd) (B : Blt mg) : FnOk P w K mg base CX0 2 f fd pPartsOf (spPartsG kp IsTy) := by
  refine T.F.ok scPartsOf (fun vs H Q E h => ?_) (fun cdv A outer s H vs Q E hr h => ?_)
  · obtain ⟨_, _, rfl, _⟩ := h
    rfl
  · obtain ⟨v, u, rfl, hu, ⟨t, hw, rfl⟩, k⟩ := h
    refine ⟨_, pss_one (ps_ret (pe_ifExp (pt_val (pe_callB call_isi (by rfl) B.isi (by decide +kernel) (pa_cons (pv 0) (pa_cons (pe_bltn (v := .ty "tuple") (by rfl) B.tuple (by decide +kernel) rfl) pa_nil)))) (pe_slice sl_tup (pv 0) (po_some pe_int) po_none) (pe_tup pa_nil))), ?_⟩
    have hv := hu.ty (t.ty_d hw)
    cases hv with
    | @w z hz =>
      exact ⟨_, rfl, _, _, _, _, false, rfl, .ty "tuple", .base (.str z), kit_ty (by decide +kernel), false, rfl, iteF ⟨Nat.zero_le _, fun p hp => k p [] hp .nil⟩⟩
    | @n p g x y a b e h1 h2 =>
      exact ⟨_, rfl, _, _, _, _, true, rfl, .ty "tuple", .base (.tup e), kit_ty (by decide +kernel), true, rfl, iteT ⟨_, rfl, _, rfl, p, _, rfl, SqT.of e, cut_not, fun q hq => k q [x, y] hq (.cons h1.d (.cons h2.d .nil))⟩⟩
def spPl (T : List (Addr × Str)) (W : Str → Prop) (H0 : Hp) (f : Str → D) : Sp := fun vs H Q _ => ∃ z, vs = [.str z] ∧ ExtN H0 H ∧ Tabs T H ∧ W z ∧ IsW z ∧ ∀ v' H', ExtN H H' → Tabs T H' → DAt H' v' (f z) → Q v' H'
def spSg (T : List (Addr × Str)) (W2 : D → Prop) (pl : Str → D) (g : Sg → D → D → D) : Sp := fun vs H Q _ => ∃ s x y a b, vs = [.str (Sg.str s), x, y] ∧ Tabs T H ∧ W2 (Ty.n s a b).d ∧ (Ty.n s a b).wok ∧ DAt H x (a.fold pl g) ∧ DAt H y (b.fold pl g) ∧ ∀ v' H', ExtN H H' → Tabs T H' → DAt H' v' (g s (a.fold pl g) (b.fold pl g)) → Q v' H'
def OkW (W : Str → Prop) (W2 : D → Prop) (u : D) : Prop := IsTy u ∧ (∀ z, u = .s z → W z) ∧ W2 u
theorem ok_atPart {qual : Str} {cl : List (Str × Addr)} {c' f1 f2 f3 : Addr} {DD : Pins} {EX : Exts} {pl : Str → D} {sg : Sg → D → D → D} {W : Str → Prop} {W2 : D → Prop} {H0 : Hp} (C1 : Callee P w K mg base 2 f1 (spPl T W H0 pl) DD EX) (C2 : Callee P w K mg base 2 f2 (spSg T W2 pl sg) DD EX)
    (hf : (f3, FnO f3 (NF.of sAtPart "at_part" qual cl c')) ∈ EX) (hc : (c', CodeO c' qual) ∈ EX) (C : CellD DD cl ["at_plain", "at_signed"] [some (.ref f1), some (.ref f2)]) :
    Callee P w K mg base 3 f3 (spNodeG T kp (OkW W W2) H0 (foK pl sg)) DD EX := by
  refine callee_def (N := nAtPart) (ps := ["part", "came"]) (F := NF.of sAtPart "at_part" qual cl c') scAtPart (fun doc pm ctv us hl => match us, hl with | [_, _], _ => rfl) (fun vs H Q h => ?_) hf hc C (fun A outer s H vs Q hr dp hx h => ?_)
  · obtain ⟨_, _, _, _, rfl, _⟩ := h
    rfl
  · obtain ⟨x, u, L, us, rfl, he0, hT, hxu, ⟨⟨t, hw, rfl⟩, hW, hW2⟩, eL, hU, k⟩ := h
    rw [foK_d hw] at k
    refine ⟨_, pss_one (ps_ret (pe_ifExp (pt_truth (pv 1) (by intro _; rfl))
      (pe_callee (i := 3) C2 hr rfl dp rfl (.inr (.inr rfl)) (pa_cons (pe_ix ix_tup (pv 0) pe_int (fun _ _ => rfl)) (pa_cons (pe_ix ix_list (pv 1) pe_int (fun _ _ => rfl)) (pa_cons (pe_ix ix_list (pv 1) pe_int (fun _ _ => rfl)) pa_nil))))
      (pe_callee (i := 2) C1 hr rfl dp rfl (.inr (.inr rfl)) (pa_cons (pv 0) pa_nil)))), ?_⟩
    refine ⟨_, rfl, _, .inl ⟨_, SqL.of eL, rfl⟩, ?_⟩
    have hv := hxu.ty (t.ty_d hw)
    cases hv with
    | @w z hz =>
      cases hU
      exact iteF ⟨rfl, hx, _, rfl, hx, z, rfl, he0, hT, hW z rfl, hz, k⟩
    | @n p g x1 x2 a b e k1 k2 =>
      simp only [Ty.d, kp, List.map_cons, List.map_nil] at hU
      rw [foK_d hw.1, foK_d hw.2] at hU
      cases hU with
      | @cons r1 _ _ _ q1 hU =>
        cases hU with
        | @cons r2 _ _ _ q2 hU =>
          cases hU
          exact iteT ⟨rfl, hx, _, rfl, p, _, _, _, rfl, rfl, SqT.of e, atI_nat (j := 0) rfl, _, rfl, L, _, _, _, rfl, rfl, SqL.of eL, atI_nat (j := 0) rfl, _, rfl, L, _, _, _, rfl, rfl, SqL.of eL, atI_nat (j := 1) rfl, hx, g, r1, r2, a, b, rfl, hT, hW2, hw, q1, q2, k⟩
def spFolded (P : Program) (w : World) (K : Frag) (mg : Str → Option Value) (base : Heap) (T : List (Addr × Str)) (DD : Pins) : Sp := fun vs H Q _ => ∃ v t f1 f2 pl sg EX W W2 H0, vs = [v, .ref f1, .ref f2] ∧ ExtN H0 H ∧ (∀ z ∈ t.words, W z) ∧ (∀ u ∈ t.nds.map Ty.d, W2 u) ∧ TyAt H v t ∧ t.d.size ≤ 1000000 ∧
  Callee P w K mg base 2 f1 (spPl T W H0 pl) DD EX ∧ Callee P w K mg base 2 f2 (spSg T W2 pl sg) DD EX ∧ ExOk EX H ∧ (∀ p ∈ EX, ∀ ps, p.2 ≠ HO.tbl ps) ∧ Tabs T H ∧
  ∀ v' H', ExtN H H' → Tabs T H' → DAt H' v' (t.fold pl sg) → Q v' H'
theorem hAtB : ndefB (L2.defScope sFolded) (C8.fnScope sAtPart) ["at_plain", "at_signed"] = true := by decide +kernel
theorem nds_words {z : Str} : ∀ {t : Ty}, D.s z ∈ t.nds.map Ty.d → z ∈ t.words
  | .w y, h => by
    simp only [Ty.nds, List.map_cons, List.map_nil, List.mem_cons, List.not_mem_nil, or_false, Ty.d, D.s.injEq] at h
    simp [Ty.words, h]
  | .n g a b, h => by
    simp only [Ty.nds, List.map_cons, List.map_append, List.mem_cons, List.mem_append, Ty.d, reduceCtorEq, false_or] at h
    simp only [Ty.words, List.mem_append]
    exact h.symm.imp nds_words nds_words
theorem nds_wok : ∀ {t : Ty}, t.wok → ∀ u ∈ t.nds.map Ty.d, IsTy u
  | .w y, h, u, hu => by
    simp only [Ty.nds, List.map_cons, List.map_nil, List.mem_cons, List.not_mem_nil, or_false] at hu
    exact ⟨_, h, hu⟩
  | .n g a b, h, u, hu => by
    simp only [Ty.nds, List.map_cons, List.map_append, List.mem_cons, List.mem_append] at hu
    rcases hu with hu | hu | hu
    · exact ⟨_, h, hu⟩
    · exact nds_wok h.2 u hu
    · exact nds_wok h.1 u hu
theorem ok_folded {f fi fn fp cI : Addr} {fd fdi fdn fdp : FuncData} (TF : TopC K mg "folded" sFolded pFolded f fd cF) (TI : TopC K mg "from_inside" sFromInside pFromInside fi fdi cI) (TN : Top K mg "nodes_in" sNodesIn pNodesIn fn fdn)
    (TP : Top K mg "_parts_of" sPartsOf pPartsOf fp fdp) (B : Blt mg) (tb : Tb1 base mg T cF PF "folded.<locals>.at_part") : FnD P w K mg base 5 f fd pFolded (spFolded P w K mg base T) := by
  have GI : FnD P w K mg base 4 fi fdi pFromInside (spFIG P w K mg base 3 T kp kn IsTy fp) := ok_fromInsideG treeK (Nat.le_refl 3) TI TN TP (ok_partsOf TP B) B
  refine TF.fnd scFolded (fun DD vs H Q h => ?_) (fun DD A outer s H vs Q hr dp h => ?_)
  · obtain ⟨_, _, _, _, _, _, _, _, _, _, rfl, _⟩ := h
    rfl
  · obtain ⟨v, t, f1, f2, pl, sg, EX, W, W2, H0, rfl, he0, hW, hW2, ht, hz, C1, C2, hx, nx, hT, k⟩ := h
    have hw := ht.wok
    refine ⟨_, pss_cons (ps_ndefMS (st := sAtPart) (T := toN T) (nm := fun _ _ => "folded.<locals>.at_part") (i := 3) rfl tb.b rfl tb.mN (show (_ : Str) = (("folded" : Str) ++ (".<locals>." : Str)) ++ ("at_part" : Str) by decide +kernel) tb.uN (ndef_free hAtB) rfl rfl rfl scFolded.nd rfl (.inl rfl) (.inl rfl))
      (pss_one (ps_ret (pe_dcall (D0 := DD) (cl := _) (fr := ["at_plain", "at_signed"]) (js := [1, 2]) GI hr rfl (fun _ => rfl) dp (fun ok => Caps.made ok (ndef_free hAtB) (ndef_fr hAtB) rfl) rfl TI.T.g TI.T.F.kp TI.T.b
        (pa_cons (pv 0) (pa_cons (pe_glob (v := .ref fp) rfl TP.g rfl) (pa_cons (pv 3) pa_nil)))))), ?_⟩
    refine ⟨tabsN_of hT, fun f3 c' H1 eN nn T1 f0 e1 e2 => ?_⟩
    have hx1 : ExOk EX H1 := fun p hp => eN p.1 p.2 (hx p hp) (nx p hp)
    refine ⟨v, rfl, _, rfl, fun D1 CD => ?_⟩
    refine ⟨v, t.d, f3, foK pl sg, EX ++ [(f3, FnO f3 (NF.of sAtPart "at_part" (("folded" : Str) ++ (".<locals>." : Str) ++ ("at_part" : Str)) _ c')), (c', CodeO c' (("folded" : Str) ++ (".<locals>." : Str) ++ ("at_part" : Str)))], OkW W W2, H0, rfl, he0.trans eN, tabs_of T1, (ht.mono (extn_tk eN)).d, ⟨t, hw, rfl⟩, hz, ?_, ok_atPart (C1.mono (Nat.le_refl _) (fun p hp => List.mem_append.mpr (.inl hp)) fun p hp => List.mem_append.mpr (.inl hp)) (C2.mono (Nat.le_refl _) (fun p hp => List.mem_append.mpr (.inl hp)) fun p hp => List.mem_append.mpr (.inl hp))
      (List.mem_append.mpr (.inr List.mem_cons_self)) (List.mem_append.mpr (.inr (List.mem_cons_of_mem _ List.mem_cons_self))) (CD.mono fun p hp => List.mem_append.mpr (.inr hp)), ?_, ?_, fun v' H' e' T' hv' => k v' H' (eN.trans e') T' (by rw [foK_d hw] at hv'; exact hv')⟩
    · intro u hu
      rw [kn_d hw] at hu
      exact ⟨nds_wok hw u hu, fun z e => hW z (nds_words (e ▸ hu)), hW2 u hu⟩
    · intro p hp
      rcases List.mem_append.mp hp with hp | hp
      · exact hx1 p hp
      · rcases List.mem_cons.mp hp with rfl | hp
        · exact e1
        · rcases List.mem_cons.mp hp with rfl | hp
          · exact e2
          · exact absurd hp (by simp)
    · intro p hp ps
      rcases List.mem_append.mp hp with hp | hp
      · exact nx p hp ps
      · rcases List.mem_cons.mp hp with rfl | hp
        · exact fun z => by
            unfold FnO at z
            cases z
        · rcases List.mem_cons.mp hp with rfl | hp
          · exact codeO_ne ps
          · exact absurd hp (by simp)
end
end V2

namespace V2
open PySem PySem.Spec PyProof.Rows L2 KT
open PySem.W (Frag)
mutual
theorem D.ty_wok : ∀ {d : D} {t : Ty}, d.ty = some t → t.wok
  | .s z, t, h => by
    simp only [D.ty] at h
    split at h
    · rename_i q
      cases h
      exact isWB_ok q
    · cases h
  | .i _, t, h => by simp only [D.ty] at h; cases h
  | .o, t, h => by simp only [D.ty] at h; cases h
  | .t l, t, h => by
    simp only [D.ty] at h
    obtain ⟨g, x, y, a, b, rfl, ⟨o, hr⟩, rfl⟩ := mkTy_inv h
    simp only [tyAll] at hr
    injection hr with _ hr
    injection hr with e1 hr
    injection hr with e2 _
    have q := tyAll_wok [.s (Sg.str g), x, y]
    exact ⟨q 1 _ _ rfl e1, q 2 _ _ rfl e2⟩
theorem tyAll_wok : ∀ (ds : List D) (j : Nat) (d : D) (t : Ty), ds[j]? = some d → d.ty = some t → t.wok
  | [], j, d, t, h, e => by simp at h
  | x :: ds, 0, d, t, h, e => by
    obtain rfl := Option.some.inj (show some _ = some _ from h)
    exact D.ty_wok e
  | x :: ds, j + 1, d, t, h, e => tyAll_wok ds j d t (by simpa using h) e
end
mutual
/-- a datum that is a type is that type's -/
theorem D.ty_d : ∀ {d : D} {t : Ty}, d.ty = some t → t.d = d
  | .s z, t, h => by
    simp only [D.ty] at h
    split at h
    · cases h; rfl
    · cases h
  | .i _, t, h => by simp only [D.ty] at h; cases h
  | .o, t, h => by simp only [D.ty] at h; cases h
  | .t l, t, h => by
    simp only [D.ty] at h
    obtain ⟨g, x, y, a, b, rfl, ⟨o, hr⟩, rfl⟩ := mkTy_inv h
    simp only [tyAll] at hr
    injection hr with _ hr
    injection hr with e1 hr
    injection hr with e2 _
    have q := tyAll_d [D.s g.str, x, y]
    have q1 := q 1 x a rfl e1
    have q2 := q 2 y b rfl e2
    simp only [Ty.d, q1, q2]
theorem tyAll_d : ∀ (ds : List D) (j : Nat) (d : D) (t : Ty), ds[j]? = some d → d.ty = some t → t.d = d
  | [], j, d, t, e, _ => by simp at e
  | a :: r, 0, d, t, e1, e2 => by
    obtain rfl := Option.some.inj (show some a = some d from e1)
    exact D.ty_d e2
  | a :: r, j + 1, d, t, e1, e2 => tyAll_d r j d t (by simpa using e1) e2
end
/-! ### texts: split, put in, read -/
theorem cps_app (x y : Str) : (x ++ y).cps.toList = x.cps.toList ++ y.cps.toList := TL.tl_append x y
theorem str_ext {x y : Str} (h : x.cps.toList = y.cps.toList) : x = y := by
  apply Str.ext'
  exact Array.toList_inj.mp h
theorem app_assoc (x y z : Str) : x ++ y ++ z = x ++ (y ++ z) := str_ext (by simp only [cps_app, List.append_assoc])
/-- the sign c as a text -/
def ch (c : Nat) : Str := ⟨#[c]⟩
theorem ch_l (c : Nat) : (ch c).cps.toList = [c] := rfl
def jn (y : List Nat) : List (List Nat) → List Nat
  | [] => []
  | [a] => a
  | a :: b :: r => a ++ y ++ jn y (b :: r)
theorem jn_is (y : Str) : ∀ l : List Str, (Str.join y l).cps.toList = jn y.cps.toList (l.map (·.cps.toList))
  | [] => rfl
  | [a] => rfl
  | a :: b :: r => by
    show (a ++ y ++ Str.join y (b :: r)).cps.toList = _
    rw [cps_app, cps_app, jn_is y (b :: r)]
    rfl
theorem jn_app (y : List Nat) : ∀ (l m : List (List Nat)), l ≠ [] → m ≠ [] → jn y (l ++ m) = jn y l ++ y ++ jn y m
  | [], _, h, _ => absurd rfl h
  | [a], [], _, h => absurd rfl h
  | [a], b :: r, _, _ => rfl
  | a :: b :: r, m, _, hm => by
    have ih := jn_app y (b :: r) m (by simp) hm
    show a ++ y ++ jn y (b :: r ++ m) = a ++ y ++ jn y (b :: r) ++ y ++ jn y m
    rw [ih]
    simp only [List.append_assoc]
/-- lists without the sign, put together with it, are told by what comes of them -/
theorem jn_inj (c : Nat) : ∀ (l m : List (List Nat)), (∀ a ∈ l, c ∉ a) → (∀ a ∈ m, c ∉ a) → l ≠ [] → m ≠ [] → jn [c] l = jn [c] m → l = m := by
  have cut : ∀ (a a' r r' : List Nat), c ∉ a → c ∉ a' → a ++ c :: r = a' ++ c :: r' → a = a' ∧ r = r' := by
    intro a
    induction a with
    | nil =>
      intro a' r r' _ h e
      cases a' with
      | nil => exact ⟨rfl, by simpa using e⟩
      | cons x a' => simp only [List.nil_append, List.cons_append, List.cons.injEq] at e; exact absurd (e.1 ▸ List.mem_cons_self) h
    | cons x a ih =>
      intro a' r r' h h' e
      cases a' with
      | nil => simp only [List.nil_append, List.cons_append, List.cons.injEq] at e; exact absurd (e.1 ▸ List.mem_cons_self) h
      | cons y a' =>
        simp only [List.cons_append, List.cons.injEq] at e
        obtain ⟨rfl, e⟩ := e
        obtain ⟨q1, q2⟩ := ih a' r r' (fun z => h (List.mem_cons_of_mem _ z)) (fun z => h' (List.mem_cons_of_mem _ z)) e
        exact ⟨by rw [q1], q2⟩
  intro l
  induction l with
  | nil => intro m _ _ h; exact absurd rfl h
  | cons a l ih =>
    intro m hl hm _ hn e
    cases m with
    | nil => exact absurd rfl hn
    | cons b m =>
      have ha := hl a List.mem_cons_self
      have hb := hm b List.mem_cons_self
      cases l with
      | nil =>
        cases m with
        | nil => exact congrArg (· :: []) e
        | cons b2 m =>
          have e : a = b ++ [c] ++ jn [c] (b2 :: m) := e
          exact absurd (by rw [e]; simp) ha
      | cons a2 l =>
        cases m with
        | nil =>
          have e : a ++ [c] ++ jn [c] (a2 :: l) = b := e
          exact absurd (by rw [← e]; simp) hb
        | cons b2 m =>
          have e : a ++ [c] ++ jn [c] (a2 :: l) = b ++ [c] ++ jn [c] (b2 :: m) := e
          simp only [List.append_assoc, List.singleton_append] at e
          obtain ⟨rfl, e2⟩ := cut _ _ _ _ ha hb e
          rw [ih (b2 :: m) (fun x hx => hl x (List.mem_cons_of_mem _ hx)) (fun x hx => hm x (List.mem_cons_of_mem _ hx)) (by simp) (by simp) e2]
theorem split_ne (x : Str) (y : Str) : Txt.split x y ≠ [] := fun z => by
  have := split_pos x y
  rw [z] at this
  simp at this
/-- what is put together of texts without the sign is split into them -/
theorem split_is {x : Str} {c : Nat} {l : List Str} (h : x.cps.toList = jn [c] (l.map (·.cps.toList))) (hl : ∀ a ∈ l, c ∉ a.cps.toList) (hn : l ≠ []) : Txt.split x (ch c) = l := by
  have e := StrLaws.join_split x (ch c)
  have q := jn_is (ch c) (Txt.split x (ch c))
  rw [e, h, ch_l] at q
  have inj : ((Txt.split x (ch c)).map (·.cps.toList)) = l.map (·.cps.toList) := by
    refine (jn_inj c _ _ (fun a ha => ?_) (fun a ha => ?_) (by simpa using hn) (by simpa using split_ne x (ch c)) q).symm
    · obtain ⟨z, hz, rfl⟩ := List.mem_map.mp ha
      exact hl z hz
    · obtain ⟨z, hz, rfl⟩ := List.mem_map.mp ha
      exact StrLaws.split_free x c z hz
  refine List.map_inj_right (fun a b h => str_ext h) |>.mp inj
theorem split_app (c : Nat) (a b : Str) : Txt.split (a ++ ch c ++ b) (ch c) = Txt.split a (ch c) ++ Txt.split b (ch c) := by
  refine split_is ?_ (fun z hz => ?_) (by simp [split_ne])
  · rw [List.map_append, jn_app _ _ _ (by simpa using split_ne a (ch c)) (by simpa using split_ne b (ch c)), ← ch_l, ← jn_is, ← jn_is, StrLaws.join_split, StrLaws.join_split, cps_app, cps_app]
  · rcases List.mem_append.mp hz with h | h
    · exact StrLaws.split_free a c z h
    · exact StrLaws.split_free b c z h
theorem split_one {c : Nat} {a : Str} (h : c ∉ a.cps.toList) : Txt.split a (ch c) = [a] := split_is rfl (fun z hz => by rw [List.mem_singleton.mp hz]; exact h) (by simp)
/-- another text put for the sign -/
def sub (c : Nat) (z : List Nat) (l : List Nat) : List Nat := l.flatMap fun d => if d = c then z else [d]
theorem sub_app (c : Nat) (z l m : List Nat) : sub c z (l ++ m) = sub c z l ++ sub c z m := by simp [sub]
theorem sub_none {c : Nat} {z l : List Nat} (h : c ∉ l) : sub c z l = l := by
  unfold sub
  induction l with
  | nil => rfl
  | cons d l ih =>
    rw [List.flatMap_cons, if_neg fun e => h (by rw [e]; exact List.mem_cons_self), ih fun m => h (List.mem_cons_of_mem _ m)]
    rfl
theorem sub_jn (c : Nat) (z : List Nat) : ∀ l : List (List Nat), (∀ a ∈ l, c ∉ a) → sub c z (jn [c] l) = jn z l
  | [], _ => rfl
  | [a], h => sub_none (h a List.mem_cons_self)
  | a :: b :: r, h => by
    have ih := sub_jn c z (b :: r) fun x hx => h x (List.mem_cons_of_mem _ hx)
    show sub c z (a ++ [c] ++ jn [c] (b :: r)) = a ++ z ++ jn z (b :: r)
    rw [sub_app, sub_app, ih, sub_none (h a List.mem_cons_self)]
    simp [sub]
theorem replace_is (x z : Str) (c : Nat) (hc : c < 128) : (Txt.replace x (ch c) z).cps.toList = sub c z.cps.toList x.cps.toList := by
  have free : ∀ a ∈ (Txt.split x (ch c)).map (·.cps.toList), c ∉ a := fun a ha => by
    obtain ⟨y, hy, rfl⟩ := List.mem_map.mp ha
    exact StrLaws.split_free x c y hy
  have q := sub_jn c z.cps.toList _ free
  rw [← ch_l, ← jn_is, StrLaws.join_split, ← jn_is] at q
  have q : sub c z.cps.toList x.cps.toList = (Str.join z (Txt.split x (ch c))).cps.toList := q
  rw [q]
  unfold Txt.replace Txt.split
  have l1 : (ch c).length = 1 := rfl
  cases ho : (Builtin.Str.occurrences x (ch c) 0 x.length (x.length + 1)).isEmpty with
  | true =>
    rw [Bool.true_or, if_pos rfl]
    split
    · rfl
    · rw [if_pos rfl]; rfl
  | false =>
    have n1 : (decide (x.length < (ch c).length) || decide (Builtin.Str.strKind x < Builtin.Str.strKind (ch c))) = false := by
      have k1 : Builtin.Str.strKind (ch c) = 1 := by
        unfold Builtin.Str.strKind
        have h1 : (ch c).cps.all (· < 256) = true := by simp [ch]; omega
        rw [h1]
        rfl
      have k2 : 1 ≤ Builtin.Str.strKind x := by
        unfold Builtin.Str.strKind
        split
        · exact Nat.le_refl 1
        · split <;> omega
      rw [k1, l1]
      have hx : 1 ≤ x.length := by
        cases hl : Builtin.Str.occurrences x (ch c) 0 x.length (x.length + 1) with
        | nil => rw [hl] at ho; cases ho
        | cons i r =>
          have := (StrLaws.occ_spec x (ch c) 0 x.length (x.length + 1) i (by rw [hl]; exact List.mem_cons_self)).1
          rw [l1] at this
          omega
      rw [decide_eq_false (by omega), decide_eq_false (by omega)]
      rfl
    rw [n1, l1, if_neg (by simp), if_neg (by simp), if_neg (by simp)]
    rw [StrLaws.glued_eq_join]
/-! ### the texts of types -/
def Ty.text : Ty → Str
  | .w z => z
  | .n g a b => ch 40 ++ a.text ++ ch 32 ++ g.str ++ ch 32 ++ b.text ++ ch 41
/-- what is made of a text ahead of the split -/
def wide (l : List Nat) : List Nat := sub 41 [32, 41] (sub 40 [40, 32] l)
theorem wide_app (l m : List Nat) : wide (l ++ m) = wide l ++ wide m := by unfold wide; rw [sub_app, sub_app]
def wideS (x : Str) : Str := Txt.replace (Txt.replace x (ch 40) ⟨#[40, 32]⟩) (ch 41) ⟨#[32, 41]⟩
theorem wideS_l (x : Str) : (wideS x).cps.toList = wide x.cps.toList := by
  unfold wideS wide
  rw [replace_is _ _ _ (by decide), replace_is _ _ _ (by decide)]
def toks : Ty → List Str
  | .w z => [z]
  | .n g a b => ch 40 :: (toks a ++ g.str :: (toks b ++ [ch 41]))
theorem toks_ne (t : Ty) : toks t ≠ [] := by cases t <;> simp [toks]
theorem isW_no {z : Str} (h : IsW z) {c : Nat} (hc : c < 97) : c ∉ z.cps.toList := fun m => by
  have := (h.2.2 c m).1
  omega
theorem sg_no (g : Sg) {c : Nat} (hc : c < 97) : c ∉ g.str.cps.toList := fun m => by
  have q : ∀ d ∈ g.str.cps.toList, 97 ≤ d := by cases g <;> decide +kernel
  have := q c m
  omega
theorem wide_none {l : List Nat} (h : ∀ c ∈ l, 97 ≤ c) : wide l = l := by
  unfold wide
  have h1 : (40 : Nat) ∉ l := fun m => by have := h 40 m; omega
  have h2 : (41 : Nat) ∉ l := fun m => by have := h 41 m; omega
  rw [sub_none h1, sub_none h2]
theorem sg_hi (g : Sg) : ∀ c ∈ g.str.cps.toList, 97 ≤ c := by cases g <;> decide +kernel
theorem isW_hi {z : Str} (h : IsW z) : ∀ c ∈ z.cps.toList, 97 ≤ c := fun c m => (h.2.2 c m).1
theorem split_wide : ∀ (t : Ty), t.wok → ∀ x : Str, x.cps.toList = wide t.text.cps.toList → Txt.split x (ch 32) = toks t
  | .w z, h, x, e => by
    have e : x.cps.toList = wide z.cps.toList := e
    rw [wide_none (isW_hi h)] at e
    obtain rfl := str_ext e
    exact split_one (isW_no h (by decide))
  | .n g a b, h, x, e => by
    have i := split_wide a h.1 ⟨(wide a.text.cps.toList).toArray⟩ (by simp)
    have j := split_wide b h.2 ⟨(wide b.text.cps.toList).toArray⟩ (by simp)
    have w1 : wide [40] = [40, 32] := by decide
    have w2 : wide [32] = [32] := by decide
    have w3 : wide [41] = [32, 41] := by decide
    have ex : x = ch 40 ++ ch 32 ++ (⟨(wide a.text.cps.toList).toArray⟩ ++ ch 32 ++ (g.str ++ ch 32 ++ (⟨(wide b.text.cps.toList).toArray⟩ ++ ch 32 ++ ch 41))) := by
      apply str_ext
      rw [e]
      simp only [Ty.text, cps_app, ch_l, wide_app, w1, w2, w3, wide_none (sg_hi g)]
      simp only [List.append_assoc, List.cons_append, List.nil_append]
    rw [ex, split_app, split_app, split_app, split_app, i, j, split_one (a := ch 40) (by simp [ch]), split_one (sg_no g (by decide)), split_one (a := ch 41) (by simp [ch])]
    simp [toks]
/-! ### the program's reading of parts -/
def rd1 (o : Option (List D)) (p : Str) : Option (List D) :=
  match o with
  | none => none
  | some st => if p = ch 41 then (match st.reverse with
      | b :: g :: a :: _ :: r => some (r.reverse ++ [.t [g, a, b]])
      | _ => none) else some (st ++ [.s p])
def rdAll (ps : List Str) (st : List D) : Option (List D) := ps.foldl rd1 (some st)
theorem rd_app (ps qs : List Str) (o : Option (List D)) : (ps ++ qs).foldl rd1 o = qs.foldl rd1 (ps.foldl rd1 o) := List.foldl_append
theorem ne_close {z : Str} (h : ∀ c ∈ z.cps.toList, 97 ≤ c) : ¬ z = ch 41 := fun e => by
  have := h 41 (by rw [e]; simp [ch])
  omega
theorem rd_toks : ∀ (t : Ty), t.wok → ∀ st : List D, (toks t).foldl rd1 (some st) = some (st ++ [t.d])
  | .w z, h, st => by
    show rd1 (some st) z = _
    simp only [rd1]
    rw [if_neg (ne_close (isW_hi h))]
    rfl
  | .n g a b, h, st => by
    show (ch 40 :: (toks a ++ g.str :: (toks b ++ [ch 41]))).foldl rd1 (some st) = _
    rw [List.foldl_cons, rd_app]
    have e0 : rd1 (some st) (ch 40) = some (st ++ [.s (ch 40)]) := by
      simp only [rd1]
      rw [if_neg (by decide)]
    rw [e0, rd_toks a h.1, List.foldl_cons]
    have e1 : rd1 (some (st ++ [.s (ch 40)] ++ [a.d])) g.str = some (st ++ [.s (ch 40)] ++ [a.d] ++ [.s g.str]) := by
      simp only [rd1]
      rw [if_neg (ne_close (sg_hi g))]
    rw [e1, rd_app, rd_toks b h.2]
    show rd1 (some _) (ch 41) = _
    simp only [rd1, if_pos]
    simp [Ty.d]
def rdD (x : Str) : D := match rdAll (Txt.split (wideS x) (ch 32)) [] with
  | some [d] => d
  | _ => .o
theorem rdD_text (t : Ty) (h : t.wok) : rdD t.text = t.d := by
  unfold rdD rdAll
  rw [split_wide t h _ (wideS_l t.text), rd_toks t h]
  rfl
theorem text_inj {t u : Ty} (h : t.wok) (h' : u.wok) (e : t.text = u.text) : t = u := by
  have q : t.d = u.d := by rw [← rdD_text t h, ← rdD_text u h', e]
  have q2 : t.d.ty = u.d.ty := by rw [q]
  rw [t.ty_d h, u.ty_d h'] at q2
  exact Option.some.inj q2
/-- what is told of a text: the type whose text it is, or nothing -/
def ofText (x : Str) : D := match (rdD x).ty with
  | some t => if t.text = x then rdD x else .o
  | none => .o
theorem ofText_text (t : Ty) (h : t.wok) : ofText t.text = t.d := by
  unfold ofText
  rw [rdD_text t h, t.ty_d h]
  show (if t.text = t.text then t.d else .o) = _
  rw [if_pos rfl]
theorem ofText_no {x : Str} (h : ∀ t : Ty, t.wok → t.text ≠ x) : ofText x = .o := by
  unfold ofText
  cases e : (rdD x).ty with
  | none => rfl
  | some t =>
    show (if t.text = x then rdD x else .o) = _
    rw [if_neg (h t (D.ty_wok e))]
theorem ofText_cases (x : Str) : (∃ t : Ty, t.wok ∧ t.text = x ∧ ofText x = t.d) ∨ ((∀ t : Ty, t.wok → t.text ≠ x) ∧ ofText x = .o) := by
  by_cases h : ∃ t : Ty, t.wok ∧ t.text = x
  · obtain ⟨t, h1, h2⟩ := h
    exact .inl ⟨t, h1, h2, by rw [← h2, ofText_text t h1]⟩
  · have h' : ∀ t : Ty, t.wok → t.text ≠ x := fun t h1 h2 => h ⟨t, h1, h2⟩
    exact .inr ⟨h', ofText_no h'⟩
end V2

namespace V2
open PySem PySem.Spec PyProof.Rows L2 KT
open PySem.W (Frag)
/-! ### the law's reading of a text -/
def low (c : Nat) : Bool := decide (97 ≤ c) && decide (c ≤ 122)
def headLow (p : Str) : Bool := match p.cps.toList with
  | c :: _ => low c
  | [] => false
def lastLow (l : List Str) : Bool := match l.getLast? with
  | some p => headLow p
  | none => false
def pc1 (l : List Str) (c : Nat) : List Str := if low c = true ∧ lastLow l = true then l.dropLast ++ [l.getLastD (ch 0) ++ ch c] else l ++ [ch c]
def pieces (x : Str) : List Str := x.cps.toList.foldl pc1 []
def cat (l : List Str) : List Nat := l.flatMap (·.cps.toList)
theorem cat_app (l m : List Str) : cat (l ++ m) = cat l ++ cat m := by simp [cat]
theorem lastLow_ne {l : List Str} (h : lastLow l = true) : l ≠ [] := fun z => by rw [z] at h; cases h
theorem pc1_cat (l : List Str) (c : Nat) : cat (pc1 l c) = cat l ++ [c] := by
  unfold pc1
  split
  · rename_i h
    have hn := lastLow_ne h.2
    have e := List.dropLast_concat_getLast hn
    have e2 : l.getLastD (ch 0) = l.getLast hn := by rw [List.getLastD_eq_getLast?, List.getLast?_eq_some_getLast hn]; rfl
    rw [cat_app, e2]
    conv => rhs; rw [← e, cat_app]
    simp [cat, cps_app, ch_l]
  · rw [cat_app]
    simp [cat, ch_l]
theorem pieces_cat (x : Str) : cat (pieces x) = x.cps.toList := by
  have key : ∀ (cs : List Nat) (l : List Str), cat (cs.foldl pc1 l) = cat l ++ cs := by
    intro cs
    induction cs with
    | nil => intro l; simp
    | cons c cs ih => intro l; rw [List.foldl_cons, ih, pc1_cat]; simp
  show cat (x.cps.toList.foldl pc1 []) = _
  rw [key]
  rfl
def pcs : Ty → List Str
  | .w z => [z]
  | .n g a b => ch 40 :: (pcs a ++ ch 32 :: g.str :: ch 32 :: (pcs b ++ [ch 41]))
theorem lastLow_snoc (l : List Str) (p : Str) : lastLow (l ++ [p]) = headLow p := by simp [lastLow]
theorem pc_word (w : List Nat) (hw : ∀ c ∈ w, 97 ≤ c ∧ c ≤ 122) : ∀ (l : List Str) (p : Str), headLow p = true → w.foldl pc1 (l ++ [p]) = l ++ [⟨(p.cps.toList ++ w).toArray⟩] := by
  induction w with
  | nil =>
    intro l p _
    have e : p = ⟨(p.cps.toList ++ []).toArray⟩ := str_ext (by simp)
    rw [← e]; rfl
  | cons c w ih =>
    intro l p hp
    rw [List.foldl_cons]
    have hc := hw c List.mem_cons_self
    have lc : low c = true := by unfold low; rw [decide_eq_true hc.1, decide_eq_true hc.2]; rfl
    have e1 : pc1 (l ++ [p]) c = l ++ [p ++ ch c] := by
      unfold pc1
      rw [if_pos ⟨lc, by rw [lastLow_snoc]; exact hp⟩]
      simp
    have hp' : headLow (p ++ ch c) = true := by
      unfold headLow at hp ⊢
      rw [cps_app]
      cases e : p.cps.toList with
      | nil => rw [e] at hp; cases hp
      | cons d r => rw [e] at hp; exact hp
    rw [e1, ih (fun d hd => hw d (List.mem_cons_of_mem _ hd)) l (p ++ ch c) hp', cps_app, ch_l]
    simp
theorem pc_text_word {w : Str} (h1 : 1 ≤ w.length) (hw : ∀ c ∈ w.cps.toList, 97 ≤ c ∧ c ≤ 122) (l : List Str) (hl : lastLow l = false) : w.cps.toList.foldl pc1 l = l ++ [w] := by
  cases e : w.cps.toList with
  | nil =>
    have : w.cps.toList.length = w.length := by simp [Str.length]
    rw [e] at this
    simp at this
    omega
  | cons c r =>
    rw [e] at hw
    have hc := hw c List.mem_cons_self
    rw [List.foldl_cons]
    have e1 : pc1 l c = l ++ [ch c] := by
      unfold pc1
      rw [if_neg fun z => by rw [hl] at z; cases z.2]
    have hp : headLow (ch c) = true := by
      show low c = true
      unfold low
      rw [decide_eq_true hc.1, decide_eq_true hc.2]
      rfl
    rw [e1, pc_word r (fun d hd => hw d (List.mem_cons_of_mem _ hd)) l (ch c) hp]
    congr 2
    exact str_ext (by simp [ch_l, e])
theorem pc_sign (l : List Str) {c : Nat} (h : low c = false) : pc1 l c = l ++ [ch c] := by
  unfold pc1
  rw [if_neg fun z => by rw [h] at z; cases z.1]
theorem sg_low (g : Sg) : 1 ≤ g.str.length ∧ ∀ c ∈ g.str.cps.toList, 97 ≤ c ∧ c ≤ 122 := by cases g <;> exact ⟨by decide +kernel, by decide +kernel⟩
theorem pc_text : ∀ (t : Ty), t.wok → ∀ l : List Str, lastLow l = false → t.text.cps.toList.foldl pc1 l = l ++ pcs t
  | .w z, h, l, hl => pc_text_word h.1 h.2.2 l hl
  | .n g a b, h, l, hl => by
    have nl : ∀ (l : List Str) {c : Nat}, low c = false → lastLow (l ++ [ch c]) = false := fun l c hc => by rw [lastLow_snoc]; exact hc
    have c40 : low 40 = false := by decide
    have c32 : low 32 = false := by decide
    have c41 : low 41 = false := by decide
    simp only [Ty.text, cps_app, ch_l, List.foldl_append, List.foldl_cons, List.foldl_nil]
    rw [pc_sign l c40, pc_text a h.1 _ (nl l c40), pc_sign (l ++ [ch 40] ++ pcs a) c32, pc_text_word (sg_low g).1 (sg_low g).2 _ (nl _ c32), pc_sign (l ++ [ch 40] ++ pcs a ++ [ch 32] ++ [g.str]) c32, pc_text b h.2 _ (nl _ c32), pc_sign _ c41]
    simp [pcs]
theorem pieces_text (t : Ty) (h : t.wok) : pieces t.text = pcs t := by
  show t.text.cps.toList.foldl pc1 [] = _
  rw [pc_text t h [] rfl]
  rfl
def D.isS (z : Str) : D → Bool
  | .s y => decide (y = z)
  | _ => false
def D.isSgn : D → Bool
  | .s y => (sgOf y).isSome
  | _ => false
def D.okp (d : D) : Bool := d.isTup || d.isKd
def shut (st : List D) : Option (List D) := match st.reverse with
  | _ :: x5 :: x4 :: x3 :: x2 :: x1 :: x0 :: r => if (x0.isS (ch 40) && x2.isS (ch 32) && x4.isS (ch 32) && x3.isSgn && x1.okp && x5.okp) = true then some (r.reverse ++ [.t [x3, x1, x5]]) else none
  | _ => none
def lp1 (o : Option (List D)) (p : Str) : Option (List D) := match o with
  | none => none
  | some st => if p = ch 41 then shut (st ++ [.s p]) else some (st ++ [.s p])
def lawD (x : Str) : D := match (pieces x).foldl lp1 (some []) with
  | some [d] => if d.isKd = true then d else .o
  | _ => .o
theorem isS_of {d : D} {z : Str} (h : d.isS z = true) : d = .s z := by
  cases d with
  | s y => exact congrArg D.s (of_decide_eq_true h)
  | i n => cases h
  | o => cases h
  | t l => cases h
theorem okp_d (t : Ty) (h : t.wok) : t.d.okp = true := by
  unfold D.okp D.isKd
  rw [t.ty_d h]
  simp
theorem lp_pcs : ∀ (t : Ty), t.wok → ∀ st : List D, (pcs t).foldl lp1 (some st) = some (st ++ [t.d])
  | .w z, h, st => by
    show lp1 (some st) z = _
    simp only [lp1]
    rw [if_neg (ne_close (isW_hi h))]
    rfl
  | .n g a b, h, st => by
    have push : ∀ (st : List D) (p : Str), ¬ p = ch 41 → lp1 (some st) p = some (st ++ [.s p]) := fun st p hp => by
      simp only [lp1]
      rw [if_neg hp]
    simp only [pcs, List.foldl_cons, List.foldl_append, List.foldl_nil]
    rw [push _ _ (by decide), lp_pcs a h.1, push _ _ (by decide), push _ _ (ne_close (sg_hi g)), push _ _ (by decide), lp_pcs b h.2]
    show lp1 (some _) (ch 41) = _
    simp only [lp1, if_pos]
    unfold shut
    have o1 := okp_d a h.1
    have o2 := okp_d b h.2
    have o3 : (D.s g.str).isSgn = true := by show (sgOf g.str).isSome = true; rw [sgOf_str]; rfl
    have s1 : (D.s (ch 40)).isS (ch 40) = true := by simp [D.isS]
    have s2 : (D.s (ch 32)).isS (ch 32) = true := by simp [D.isS]
    simp [o1, o2, o3, s1, s2, Ty.d]
/-- how it reads -/
def rn : D → List Nat
  | .s z => z.cps.toList
  | d => match d.ty with
    | some t => t.text.cps.toList
    | none => []
theorem rn_s (z : Str) : rn (.s z) = z.cps.toList := rfl
theorem rn_d (t : Ty) (h : t.wok) : rn t.d = t.text.cps.toList := by
  cases t with
  | w z => rfl
  | n g a b =>
    have e := Ty.ty_d (.n g a b) h
    show (match (Ty.n g a b).d.ty with | some t => t.text.cps.toList | none => []) = _
    rw [e]
def Gd (d : D) : Prop := (∃ z, d = .s z) ∨ ∃ t : Ty, t.wok ∧ d = t.d
theorem okp_ty {d : D} (h : Gd d) (o : d.okp = true) : ∃ t : Ty, t.wok ∧ d = t.d := by
  rcases h with ⟨z, rfl⟩ | h
  · have o : (D.s z).isKd = true := by simpa [D.okp, D.isTup] using o
    obtain ⟨t, ht⟩ := Option.isSome_iff_exists.mp o
    exact ⟨t, D.ty_wok ht, (D.ty_d ht).symm⟩
  · exact h
theorem sgn_of {d : D} (h : d.isSgn = true) : ∃ g : Sg, d = .s g.str := by
  cases d with
  | s y =>
    obtain ⟨g, hg⟩ := Option.isSome_iff_exists.mp (show (sgOf y).isSome = true from h)
    exact ⟨g, by rw [sgOf_some hg]⟩
  | i n => cases h
  | o => cases h
  | t l => cases h
theorem shut_ok {st st' : List D} (h : shut st = some st') (hg : ∀ d ∈ st, Gd d) (hl : st.getLast? = some (.s (ch 41))) : (∀ d ∈ st', Gd d) ∧ st'.flatMap rn = st.flatMap rn := by
  unfold shut at h
  split at h
  · rename_i x6 x5 x4 x3 x2 x1 x0 r e
    split at h
    · rename_i c
      simp only [Bool.and_eq_true] at c
      obtain ⟨⟨⟨⟨⟨c0, c2⟩, c4⟩, c3⟩, c1⟩, c5⟩ := c
      have e2 : st = r.reverse ++ [x0, x1, x2, x3, x4, x5, x6] := by
        have := congrArg List.reverse e
        rw [List.reverse_reverse] at this
        rw [this]
        simp
      have mem : ∀ d ∈ [x0, x1, x2, x3, x4, x5, x6], Gd d := fun d hd => hg d (by rw [e2]; exact List.mem_append.mpr (.inr hd))
      obtain ⟨t1, w1, rfl⟩ := okp_ty (mem x1 (by simp)) c1
      obtain ⟨t5, w5, rfl⟩ := okp_ty (mem x5 (by simp)) c5
      obtain ⟨g, rfl⟩ := sgn_of c3
      obtain rfl := isS_of c0
      obtain rfl := isS_of c2
      obtain rfl := isS_of c4
      have e6 : x6 = .s (ch 41) := by rw [e2] at hl; simpa using hl
      subst e6
      obtain rfl := Option.some.inj h
      have wn : (Ty.n g t1 t5).wok := ⟨w1, w5⟩
      refine ⟨fun d hd => ?_, ?_⟩
      · rcases List.mem_append.mp hd with hd | hd
        · exact hg d (by rw [e2]; exact List.mem_append.mpr (.inl hd))
        · exact .inr ⟨.n g t1 t5, wn, List.mem_singleton.mp hd⟩
      · have q := rn_d (.n g t1 t5) wn
        rw [e2, List.flatMap_append, List.flatMap_append]
        congr 1
        show rn (Ty.n g t1 t5).d ++ [] = _
        rw [q]
        simp only [List.flatMap_cons, List.flatMap_nil, rn_d t1 w1, rn_d t5 w5, Ty.text, cps_app, ch_l, rn_s, List.append_assoc, List.append_nil, List.cons_append, List.nil_append]
    · cases h
  · cases h
theorem lp_ok : ∀ (ps : List Str) (st st' : List D), ps.foldl lp1 (some st) = some st' → (∀ d ∈ st, Gd d) → (∀ d ∈ st', Gd d) ∧ st'.flatMap rn = st.flatMap rn ++ cat ps := by
  intro ps
  induction ps with
  | nil => intro st st' h hg; obtain rfl := Option.some.inj h; exact ⟨hg, by simp [cat]⟩
  | cons p ps ih =>
    intro st st' h hg
    rw [List.foldl_cons] at h
    have none_ : ∀ ps : List Str, ps.foldl lp1 none = none := by
      intro ps
      induction ps with
      | nil => rfl
      | cons q ps i => exact i
    cases e : lp1 (some st) p with
    | none => rw [e, none_] at h; cases h
    | some s1 =>
      rw [e] at h
      have hgp : ∀ d ∈ st ++ [.s p], Gd d := fun d hd => by
        rcases List.mem_append.mp hd with hd | hd
        · exact hg d hd
        · exact .inl ⟨p, List.mem_singleton.mp hd⟩
      have q : (∀ d ∈ s1, Gd d) ∧ s1.flatMap rn = st.flatMap rn ++ p.cps.toList := by
        simp only [lp1] at e
        split at e
        · rename_i c
          obtain ⟨a1, a2⟩ := shut_ok e hgp (by rw [c]; simp)
          exact ⟨a1, by rw [a2, List.flatMap_append]; simp [rn]⟩
        · obtain rfl := Option.some.inj e
          exact ⟨hgp, by rw [List.flatMap_append]; simp [rn]⟩
      obtain ⟨a1, a2⟩ := ih s1 st' h q.1
      exact ⟨a1, by rw [a2, q.2]; simp [cat]⟩
/-- the law's reading is the program's -/
theorem lawD_is (x : Str) : lawD x = ofText x := by
  rcases ofText_cases x with ⟨t, h1, rfl, e⟩ | ⟨hno, e⟩
  · rw [e]
    unfold lawD
    rw [pieces_text t h1, lp_pcs t h1]
    show (if t.d.isKd = true then t.d else .o) = _
    rw [if_pos (by unfold D.isKd; rw [t.ty_d h1]; rfl)]
  · rw [e]
    unfold lawD
    split
    · rename_i d hd
      split
      · rename_i k
        obtain ⟨g1, g2⟩ := lp_ok _ _ _ hd fun _ h => by cases h
        obtain ⟨t, ht⟩ := Option.isSome_iff_exists.mp k
        have wt := D.ty_wok ht
        have ed : d = t.d := (D.ty_d ht).symm
        refine absurd (str_ext ?_) (hno t wt)
        have g2 : rn d ++ [] = cat (pieces x) := g2
        rw [List.append_nil, pieces_cat, ed, rn_d t wt] at g2
        exact g2
      · rfl
    · rfl
end V2

namespace V2
open PySem PySem.Spec PyProof.Rows L2 NdefX LamX KT
open PySem.W (Frag)
section
variable {P : Program} {w : World} {K : Frag} {mg : Str → Option Value} {base : Heap}
def spCheckKindT : Sp := fun vs H Q _ => ∃ v t, vs = [v] ∧ TyAt H v t ∧ t.d.dep ≤ 60 ∧ t.d.size ≤ 1000000 ∧ ∀ H', Same H H' → Q .non H'
theorem isKd_d {t : Ty} (h : t.wok) : t.d.isKd = true := by
  unfold D.isKd
  rw [t.ty_d h]
  rfl
theorem ok_checkKindT {f fi : Addr} {fd fdi : FuncData} (T : Top K mg "check_kind" sCheckKind pCheckKind f fd) (TI : Top K mg "is_kind" sIsKind pIsKind fi fdi) (GI : FnOk P w K mg base CX0 2 fi fdi pIsKind spIsKindD) : FnOk P w K mg base CX0 3 f fd pCheckKind spCheckKindT := by
  refine T.F.ok scCheckKind (fun vs H Q E h => ?_) (fun cdv A outer s H vs Q E hr h => ?_)
  · obtain ⟨_, _, rfl, _⟩ := h
    rfl
  · obtain ⟨v, t, rfl, ht, hd, hz, k⟩ := h
    refine ⟨_, pss_one (ps_if (pt_not (pt_val (pe_call GI hr rfl TI.g TI.F.kp TI.b .nil pass0 (pa_cons (pv 0) pa_nil)))) pss_never pss_nil), ?_⟩
    refine ⟨v, rfl, v, t.d, rfl, ht.d, hd, hz, fun H' s' => ⟨_, rfl, ?_⟩⟩
    rw [isKd_d ht.wok]
    exact iteF (k H' s')
/-- a row -/
def RowAt (H : Hp) (L : Addr) (ts : List Ty) : Prop := ∃ us, H L = some (.lst us) ∧ Tys H us ts
def RowOk (ts : List Ty) : Prop := ts.length ≤ 4000 ∧ ∀ t ∈ ts, t.d.dep ≤ 60 ∧ t.d.size ≤ 1000000
def spAreKinds : Sp := fun vs H Q _ => ∃ L ts, vs = [.ref L] ∧ RowAt H L ts ∧ RowOk ts ∧ ∀ H', Same H H' → Q (.bl true) H'
theorem ok_areKinds {f fi : Addr} {fd fdi : FuncData} (T : Top K mg "are_kinds" sAreKinds pAreKinds f fd) (TI : Top K mg "is_kind" sIsKind pIsKind fi fdi) (GI : FnOk P w K mg base CX0 2 fi fdi pIsKind spIsKindD) (B : Blt mg) : FnOk P w K mg base CX0 3 f fd pAreKinds spAreKinds := by
  refine T.F.ok scAreKinds (fun vs H Q E h => ?_) (fun cdv A outer s H vs Q E hr h => ?_)
  · obtain ⟨_, _, rfl, _⟩ := h
    rfl
  · obtain ⟨L, ts, rfl, ⟨us, eL, hT⟩, ho, k⟩ := h
    refine ⟨_, pss_one (ps_ret (pe_and (pe_callB call_isi (by rfl) B.isi (by decide +kernel) (pa_cons (pv 0) (pa_cons (pe_bltn (v := .ty "list") (by rfl) B.list (by decide +kernel) rfl) pa_nil))) (pe_one (pe_callB (cr_all rfl) (by rfl) B.all (by decide +kernel) (pa_cons (pe_lc (own := [("kind", 1)]) (g := gName 1) (tt := tYes) rfl scAreKinds.nd (pi_list (pv 0)) (blkOk_by (N := nAreKinds) (sc := defScope sAreKinds) (by decide +kernel)) (fun _ _ _ _ _ => pg_name (i := 1) scAreKinds.nd rfl (Or.inl rfl)) (fun _ _ _ _ _ => pts_nil) (fun _ _ _ _ _ => (pe_call GI hr rfl TI.g TI.F.kp TI.b .nil pass0 (pa_cons (pv 1) pa_nil)))) pa_nil))))), ?_⟩
    refine ⟨_, rfl, _, _, _, _, true, rfl, .ty "list", .base (.lst eL), kit_ty (by decide +kernel), true, rfl, ?_⟩
    refine ⟨_, rfl, L, rfl, ⟨_, SqL.of eL⟩, fun D hD => ?_⟩
    have lT := hT.length
    refine lc_list (K := K) (xs := us) (fun i H' => Same H H' ∧ H' D = some (.lst (List.replicate i (.bl true)))) ⟨same_upd hD, upd_same⟩ (fun i H' _ q => SqL.of (q.1 _ _ eL)) ?_ ?_
    · rintro i x H' hx ⟨sI, eD⟩
      obtain ⟨t, ht, hxt⟩ := hT.at_ hx
      obtain ⟨hi, _⟩ := List.getElem?_eq_some_iff.mp ht
      obtain ⟨h1, h2⟩ := ho.2 t (List.mem_of_getElem? ht)
      have hl := ho.1
      refine ⟨rfl, x, rfl, x, t.d, rfl, (hxt.mono (TK.of_same sI)).d, h1, h2, fun H2 s2 => ⟨_, s2 _ _ eD, by rw [List.length_replicate, sizeLine_eq]; omega, same_over (sI.trans s2) hD, ?_⟩⟩
      rw [upd_same, isKd_d hxt.wok, ← List.replicate_succ']
    · rintro H' ⟨sI, eD⟩
      refine ⟨D, List.replicate us.length true, rfl, SqL.of (by rw [eD, List.map_replicate]), ?_⟩
      have e : (List.replicate us.length true).all id = true := by
        rw [List.all_eq_true]
        intro b hb
        exact (List.mem_replicate.mp hb).2
      rw [e]
      exact k _ sI
def spCheckRow : Sp := fun vs H Q _ => ∃ L ts, vs = [.ref L] ∧ RowAt H L ts ∧ RowOk ts ∧ ts ≠ [] ∧ ∀ H', Same H H' → Q .non H'
def spIsRow : Sp := fun vs H Q _ => ∃ L ts, vs = [.ref L] ∧ RowAt H L ts ∧ RowOk ts ∧ ts ≠ [] ∧ ∀ H', Same H H' → Q (.bl true) H'
theorem ok_isRow {f fa : Addr} {fd fda : FuncData} (T : Top K mg "is_row" sIsRow pIsRow f fd) (TA : Top K mg "are_kinds" sAreKinds pAreKinds fa fda) (GA : FnOk P w K mg base CX0 3 fa fda pAreKinds spAreKinds) (B : Blt mg) : FnOk P w K mg base CX0 4 f fd pIsRow spIsRow := by
  refine T.F.ok scIsRow (fun vs H Q E h => ?_) (fun cdv A outer s H vs Q E hr h => ?_)
  · obtain ⟨_, _, rfl, _⟩ := h
    rfl
  · obtain ⟨L, ts, rfl, hR, ho, hne, k⟩ := h
    refine ⟨_, pss_one (ps_ret (pe_and (pe_call GA hr rfl TA.g TA.F.kp TA.b .nil pass0 (pa_cons (pv 0) pa_nil)) (pe_one (pe_cmpR op_gt (pe_callB call_len_seq (by rfl) B.len PySem.boot_len (pa_cons (pv 0) pa_nil)) pe_int (nomark _))))), ?_⟩
    refine ⟨_, rfl, L, ts, rfl, hR, ho, fun H1 s1 => ⟨true, rfl, ?_⟩⟩
    obtain ⟨us, eL, hT⟩ := hR
    refine ⟨_, rfl, L, us, rfl, .inl (SqL.of (s1 _ _ eL)), _, _, rfl, rfl, ?_⟩
    have lp : 0 < ts.length := List.length_pos_iff.mpr hne
    have e : decide ((0 : Int) < (us.length : Int)) = true := decide_eq_true (by rw [hT.length]; omega)
    show Q (.bl (decide ((0 : Int) < (us.length : Int)))) H1
    rw [e]
    exact k H1 s1
theorem ok_checkRow {f fa : Addr} {fd fda : FuncData} (T : Top K mg "check_row" sCheckRow pCheckRow f fd) (TA : Top K mg "is_row" sIsRow pIsRow fa fda) (GA : FnOk P w K mg base CX0 4 fa fda pIsRow spIsRow) : FnOk P w K mg base CX0 5 f fd pCheckRow spCheckRow := by
  refine T.F.ok scCheckRow (fun vs H Q E h => ?_) (fun cdv A outer s H vs Q E hr h => ?_)
  · obtain ⟨_, _, rfl, _⟩ := h
    rfl
  · obtain ⟨L, ts, rfl, hR, ho, hne, k⟩ := h
    refine ⟨_, pss_one (ps_if (pt_not (pt_val (pe_call GA hr rfl TA.g TA.F.kp TA.b .nil pass0 (pa_cons (pv 0) pa_nil)))) pss_never pss_nil), ?_⟩
    exact ⟨_, rfl, L, ts, rfl, hR, ho, hne, fun H' s' => ⟨_, rfl, iteF (k H' s')⟩⟩
theorem RowAt.same {H H' : Hp} {L : Addr} {ts : List Ty} (h : RowAt H L ts) (s : Same H H') : RowAt H' L ts := by
  obtain ⟨us, e, hT⟩ := h
  exact ⟨us, s _ _ e, hT.mono (TK.of_same s)⟩
end
theorem tx_sg (g : Sg) : TxtOk g.str := by cases g <;> exact ⟨by decide +kernel, by decide +kernel⟩
def callArgs : Expr → List Expr
  | .Call _ es _ _ => es
  | _ => []
def retE : Stmt → List Expr
  | .Return (some e) _ => [e]
  | _ => []
/-- what folded stands upon -/
structure TFs (K : Frag) (mg : Str → Option Value) (base : Heap) (T : List (Addr × Str)) (ff fi fn fp cI cF PF : Addr) (fdf fdi fdn fdp : FuncData) : Prop where
  TF : TopC K mg "folded" sFolded pFolded ff fdf cF
  TI : TopC K mg "from_inside" sFromInside pFromInside fi fdi cI
  TN : Top K mg "nodes_in" sNodesIn pNodesIn fn fdn
  TP : Top K mg "_parts_of" sPartsOf pPartsOf fp fdp
  tb : Tb1 base mg T cF PF "folded.<locals>.at_part"
/-! ### texts of types -/
def sgT (g : Sg) (a b : D) : D := match a, b with
  | .s x, .s y => .s (((((((Str.empty ++ ("(" : Str)) ++ x) ++ (" " : Str)) ++ g.str) ++ (" " : Str)) ++ y) ++ (")" : Str))
  | _, _ => .o
theorem lit40 : ("(" : Str) = ch 40 := by decide +kernel
theorem lit41 : (")" : Str) = ch 41 := by decide +kernel
theorem lit32 : (" " : Str) = ch 32 := by decide +kernel
theorem empty_app (x : Str) : Str.empty ++ x = x := str_ext (by rw [cps_app]; rfl)
theorem text_fold (t : Ty) : t.fold .s sgT = .s t.text := by
  induction t with
  | w _ => rfl
  | n g a b i j => simp only [Ty.fold, i, j, sgT, empty_app, Ty.text, lit40, lit41, lit32]
theorem len_cps (x : Str) : x.length = x.cps.toList.length := by simp [Str.length]
theorem str_len_app (x y : Str) : (x ++ y).length = x.length + y.length := by rw [len_cps, len_cps, len_cps, cps_app, List.length_append]
theorem text_len (t : Ty) (h : t.wok) : t.text.length ≤ 8 * t.d.size := by
  induction t with
  | w z => have := h.2.1; show z.length ≤ 8 * 1; omega
  | n g a b i j =>
    have i := i h.1
    have j := j h.2
    have l : g.str.length ≤ 5 := by cases g <;> decide +kernel
    have l1 : (ch 40).length = 1 := rfl
    have l2 : (ch 41).length = 1 := rfl
    have l3 : (ch 32).length = 1 := rfl
    simp only [Ty.text, str_len_app, Ty.d, D.size, sizeAll, l1, l2, l3]
    omega
theorem text_chars (t : Ty) (h : t.wok) : ∀ c ∈ t.text.cps.toList, c < 128 := by
  induction t with
  | w z => intro c hc; have := (h.2.2 c hc).2; omega
  | n g a b i j =>
    intro c hc
    have l : ∀ c ∈ g.str.cps.toList, c < 128 := by cases g <;> decide +kernel
    simp only [Ty.text, cps_app, ch_l, List.mem_append, List.mem_singleton] at hc
    rcases hc with ((((((hc | hc) | hc) | hc) | hc) | hc) | hc)
    · omega
    · exact i h.1 c hc
    · omega
    · exact l c hc
    · omega
    · exact j h.2 c hc
    · omega
theorem txt_of {x : Str} (h : ∀ c ∈ x.cps.toList, c < 128) (l : x.length ≤ 1000000) : TxtOk x := by
  refine ⟨?_, l⟩
  unfold PyData.strOk
  simp only [List.all_eq_true, Array.all_eq_true_iff_forall_mem, decide_eq_true_eq]
  intro c hc
  have := h c (by simpa using hc)
  omega
theorem txt_text {t : Ty} (h : t.wok) (z : t.d.size ≤ 100000) : TxtOk t.text := txt_of (text_chars t h) (by have := text_len t h; omega)
theorem nds_size : ∀ (t : Ty) (u : D), u ∈ t.nds.map Ty.d → u.size ≤ t.d.size
  | .w y, u, h => by
    simp only [Ty.nds, List.map_cons, List.map_nil, List.mem_cons, List.not_mem_nil, or_false] at h
    rw [h]
    exact Nat.le_refl _
  | .n g a b, u, h => by
    simp only [Ty.nds, List.map_cons, List.map_append, List.mem_cons, List.mem_append] at h
    simp only [Ty.d, D.size, sizeAll]
    rcases h with h | h | h
    · rw [h]; simp only [Ty.d, D.size, sizeAll]; omega
    · have := nds_size b u h; omega
    · have := nds_size a u h; omega
section
variable {P : Program} {w : World} {K : Frag} {mg : Str → Option Value} {base : Heap} {T : List (Addr × Str)} {cF cT PF PT : Addr}
def spTextOf (T : List (Addr × Str)) : Sp := fun vs H Q _ => ∃ v t, vs = [v] ∧ TyAt H v t ∧ t.d.size ≤ 100000 ∧ Tabs T H ∧ ∀ H', ExtN H H' → Tabs T H' → Q (.str t.text) H'
theorem ok_textOf {f ff fi fn fp cI : Addr} {fd fdf fdi fdn fdp : FuncData} (TD : TopC K mg "_text_of" sTextOf pTextOf f fd cT) (tbT : Tb1 base mg T cT PT "_text_of.<locals>.<lambda>") (U : TFs K mg base T ff fi fn fp cI cF PF fdf fdi fdn fdp) (B : Blt mg) : FnOk P w K mg base L2.CX0 6 f fd pTextOf (spTextOf T) := by
  have GF : FnD P w K mg base 5 ff fdf pFolded (spFolded P w K mg base T) := ok_folded U.TF U.TI U.TN U.TP B U.tb
  have TF := U.TF
  refine FnD.ok (TD.fnd scTextOf (sp := fun _ => spTextOf T) (fun DD vs H Q h => ?_) (fun DD A outer s H vs Q hr dp h => ?_)) fun vs H Q E h => h
  · obtain ⟨_, _, rfl, _⟩ := h
    rfl
  · obtain ⟨v, t, rfl, ht, hz, hT, k⟩ := h
    have hw := ht.wok
    have eq : (("_text_of" : Str) ++ (".<locals>." : Str)) ++ ("<lambda>" : Str) = ("_text_of.<locals>.<lambda>" : Str) := by decide +kernel
    refine ⟨_, (pss_one (ps_ret (pe_dcall (D0 := DD) (cl := []) (fr := []) (js := []) GF hr rfl (fun _ => rfl) dp (fun ok => Caps.nil) rfl TF.T.g TF.T.F.kp TF.T.b
        (pa_cons (pv 0) (pa_cons (pe_lamV (T := T) tbT.b rfl (by show (PT, (("_text_of" : Str) ++ (".<locals>." : Str)) ++ ("<lambda>" : Str)) ∈ _; rw [eq]; exact tbT.m) (fun p hp e => (tbT.u p hp e).trans eq.symm) rfl (ndef_free (sc := L2.defScope sTextOf) (fr := []) (by decide +kernel)))
          (pa_cons (pe_lamV (T := T) tbT.b rfl (by show (PT, (("_text_of" : Str) ++ (".<locals>." : Str)) ++ ("<lambda>" : Str)) ∈ _; rw [eq]; exact tbT.m) (fun p hp e => (tbT.u p hp e).trans eq.symm) rfl (ndef_free (sc := L2.defScope sTextOf) (fr := []) (by decide +kernel))) pa_nil)))))), ?_⟩
    refine ⟨v, rfl, hT, fun f1 c1 H2 eN nn T2 f0 e1 e2 => ⟨T2, fun f2 c2 H3 eN3 nn3 T3' f03 e13 e23 => fun D1 CD => ?_⟩⟩
    obtain ⟨EX2, C2, x2, n2⟩ := lam_callee (P := P) (w := w) (K := K) (mg := mg) (base := base) (k := 1) (sp := spSg T (fun u => u.size ≤ 100000) D.s sgT) (D := DD ++ D1) (N := ["sign", "first", "second"]) (ps := ["sign", "first", "second"]) (fr := []) (ws := []) e13 e23 (nscope_by (by dsimp only [lamF]; decide +kernel)) (fun pm ctv us hl => match us, hl with | [_, _, _], _ => rfl)
      (fun vs H Q h => by obtain ⟨_, _, _, _, _, rfl, _⟩ := h; rfl) CellD.nil (fun A outer s H vs Q hr d h => by
        obtain ⟨g, x, y, a, b, rfl, hT, hsz, hwk, h1, h2, k⟩ := h
        rw [text_fold] at h1 h2
        refine ⟨_, pe_joined (.cons pe_str (.cons (pe_fmt (pv 1)) (.cons pe_str (.cons (pe_fmt (pv 0)) (.cons pe_str (.cons (pe_fmt (pv 2)) (.cons pe_str .nil))))))), ?_⟩
        simp only [Ty.d, D.size, sizeAll] at hsz
        have la := text_len a hwk.1
        have lb := text_len b hwk.2
        have l : g.str.length ≤ 5 := by cases g <;> decide +kernel
        have l1 : ("(" : Str).length = 1 := by decide +kernel
        have l2 : (")" : Str).length = 1 := by decide +kernel
        have l3 : (" " : Str).length = 1 := by decide +kernel
        have l0 : Str.empty.length = 0 := rfl
        cases h1 with
        | @s z1 t1 =>
        cases h2 with
        | @s z2 t2 =>
        refine ⟨_, rfl, by rw [str_len_app, sizeLine_eq]; omega, _, rfl, .inl ⟨_, rfl, by rw [sizeLine_eq]; omega, _, rfl, by rw [str_len_app, str_len_app, sizeLine_eq]; omega, _, rfl, by rw [str_len_app, str_len_app, str_len_app, sizeLine_eq]; omega, _, rfl, .inl ⟨_, rfl, by rw [sizeLine_eq]; omega, _, rfl, by rw [str_len_app, str_len_app, str_len_app, str_len_app, sizeLine_eq]; omega, _, rfl, by rw [str_len_app, str_len_app, str_len_app, str_len_app, str_len_app, sizeLine_eq]; omega, _, rfl, .inl ⟨_, rfl, by rw [sizeLine_eq]; omega, _, rfl, by rw [str_len_app, str_len_app, str_len_app, str_len_app, str_len_app, str_len_app, sizeLine_eq]; omega, _, rfl, by rw [str_len_app, str_len_app, str_len_app, str_len_app, str_len_app, str_len_app, str_len_app, sizeLine_eq]; omega, ?_⟩⟩⟩⟩
        rw [text_fold, text_fold] at k
        refine k _ H (ExtN.refl H) hT (.s ?_)
        have q : ((((((Str.empty ++ ("(" : Str) ++ a.text) ++ (" " : Str)) ++ g.str) ++ (" " : Str)) ++ b.text) ++ (")" : Str)) = (Ty.n g a b).text := by rw [empty_app, lit40, lit32, lit41]; rfl
        rw [q]
        exact txt_text hwk (by simp only [Ty.d, D.size, sizeAll]; omega))
    have e1' := eN3 _ _ e1 (fun ps z => by unfold LamO at z; cases z)
    have e2' := eN3 _ _ e2 codeO_ne
    have eA : ExtN H H3 := eN.trans eN3
    obtain ⟨EX1, C1, x1, n1⟩ := lam_callee (P := P) (w := w) (K := K) (mg := mg) (base := base) (k := 1) (sp := spPl T (fun _ => True) H D.s) (D := DD ++ D1) (N := ["word"]) (ps := ["word"]) (fr := []) (ws := []) e1' e2' (nscope_by (by dsimp only [lamF]; decide +kernel)) (fun pm ctv us hl => match us, hl with | [_], _ => rfl)
      (fun vs H Q h => by obtain ⟨_, rfl, _⟩ := h; rfl) CellD.nil (fun A outer s H' vs Q hr dd h => by
        obtain ⟨z, rfl, he0, hT, hW, hz, k⟩ := h
        exact ⟨_, pv 0, _, rfl, k _ H' (ExtN.refl H') hT (.s (isW_ok hz))⟩)
    have C1' := C1.mono (Nat.le_refl 2) (fun p hp => hp) (EX' := EX1 ++ EX2) fun p hp => List.mem_append.mpr (.inl hp)
    have C2' := C2.mono (Nat.le_refl 2) (fun p hp => hp) (EX' := EX1 ++ EX2) fun p hp => List.mem_append.mpr (.inr hp)
    refine ⟨v, t, f1, f2, D.s, sgT, EX1 ++ EX2, _, _, H, rfl, eA, fun z hz => trivial, fun u hu => Nat.le_trans (nds_size t u hu) hz, ht.mono (extn_tk eA), by omega, C1', C2', fun p hp => (List.mem_append.mp hp).elim (x1 p) (x2 p), fun p hp => (List.mem_append.mp hp).elim (n1 p) (n2 p), T3', fun v' H' e' T' hv' => ?_⟩
    rw [text_fold] at hv'
    cases hv'
    exact k H' (eA.trans e') T'
end
end V2

namespace KT
open PySem PySem.Spec PyProof.Rows L2
open PySem.Sem (wp)
open MeetsSeq
section
variable {prog : Program} {w : World} {A : Around} {E : Value → Shared → Prop} {s : Shared}
theorem bounds_last {k n : Nat} (h : k ≤ n) (h1 : 1 ≤ k) : sliceBounds (some (-(k : Int))) none none n = (((n - k : Nat) : Int), (n : Int), 1) := by
  simp only [sliceBounds, Option.getD_none]
  have h1 : (-(k : Int)) < 0 := by omega
  simp only [h1, if_true, show (1 : Int) > 0 by decide]
  congr 1
  omega
theorem delItem_sliceB {l sl : Addr} {its : List Value} {n : Nat} {vl : Value} {a : Nat} {b : Int} {Q : Unit → Shared → Prop}
    (e : s.heap.get? l = some { cls := .type "list", data := .seq its.toArray n }) (hs : s.heap.IsSliceOf sl vl .none .none) (pl : IsPart vl (some b)) (hb : sliceBounds (some b) none none its.toArray.size = ((a : Int), (its.toArray.size : Int), 1)) (ha : a ≤ its.length) (hsz : its.toArray.size ≤ sizeLine)
    (h : ∀ g : Array Value → Array Value, g its.toArray = (its.take a).toArray → Q () { s with heap := s.heap.update l (Obj.mapSeq g) }) :
    wpAny (model prog w) A (delItem (.ref l) (.ref sl)) Q E s := by
  have hl : s.heap.IsList l its.toArray := PySem.IsL.isList e
  obtain ⟨os, hos, hcs, hds⟩ := id hs
  have hTs : s.TypeIs (.ref sl) "slice" := ⟨os, hos, hcs⟩
  have hstep : ¬ ((rawPart none == rawInt 0) = true) := Bool.false_ne_true
  refine wpAny_delItem_slot hl.typeIs (by decide) F.slot_list_delitem (wpAny_call_entry F.slot_list_delitem hl.typeIs F.entry_list_delitem ?_ (F.args_list_delitem_2 _ _))
  show wpAny _ _ (Builtin.List.listSubscript? (.ref sl) >>= _) _ _ s
  refine wpAny_bind ?_
  unfold Builtin.List.listSubscript?
  refine wpAny_bind (wpAny_specialOf hTs slice_no_index ?_)
  simp only [Option.isNone_none, if_true]
  refine wpAny_pure ?_
  show wpAny _ _ (typeOf (.ref sl) >>= _) _ _ s
  refine wpAny_bind (wpAny_typeOf hTs ?_)
  first
    | rw [if_neg (by decide)]
    | refine PySem.W.KFB.if_not (by decide) ?_
  rw [listSliceParts_eq]
  refine wpAny_bind (wpAny_bind (wpAny_field hos hds (x := .none) rfl (wpAny_bind (wpAny_listPart .none ?_))))
  rw [if_neg hstep]
  refine wpAny_bind (wpAny_field hos hds (x := vl) rfl (wpAny_bind (wpAny_listPart pl ?_)))
  refine wpAny_bind (wpAny_field hos hds (x := .none) rfl (wpAny_bind (wpAny_listPart .none (wpAny_pure ?_))))
  refine wpAny_bind (m := Builtin.List.listItems (.ref l)) ?_
  unfold Builtin.List.listItems
  refine wpAny_bind (wpAny_seqItems e rfl (wpAny_pure ?_))
  refine wpAny_bind (wpAny_of_eq ((sliceIndices_raw (some b) none none its.toArray.size (by simp)).trans (congrArg (pure : Int × Int × Int → Sem (Int × Int × Int)) hb)) ?_)
  refine wpAny_bind (wpAny_rule ?_)
  refine wpAny_bind (wpAny_updateSeq (hz := hsz) (_hz' := ?hz) e rfl ?main)
  case hz =>
    refine Nat.le_trans (Nat.le_of_eq (congrArg Array.size (drop_tail its a ha))) ?_
    rw [List.size_toArray, List.length_take]
    rw [List.size_toArray] at hsz
    omega
  case main =>
    refine wpAny_bind (wpAny_letGo ?_)
    refine wpAny_pure ⟨.none, rfl, h _ ?_⟩
    exact drop_tail its a ha
end
section
variable {X : Cx}
/-- del xs[-b:] of a list -/
def tDelLast (to : TE) (tl : TO) : TS := fun D σ H => to σ H fun x H1 => tl σ H1 fun y H2 => ∃ (l : Addr) (xs : List V) (b : Nat), x = .ref l ∧ y = some (-(b : Int)) ∧ H2 l = some (.lst xs) ∧ b ≤ xs.length ∧ 1 ≤ b ∧ D.nx σ (upd H2 l (.lst (xs.take (xs.length - b))))
theorem ps_delLast {o : Expr} {lo : Option Expr} {to : TE} {tl : TO} {tpos p2 pos : Pos} (ho : PE X o to) (hl : PO X lo tl) : PS X (.Delete [.Subscript o (.Slice lo none none p2) tpos] pos) (tDelLast to tl) := by
  refine ⟨fun pins s σ H D I h => ?_⟩
  refine wpAny_Delete (wpAny_deleteEach_cons (wpAny_delete_Subscript (thn (ho.run pins s σ H _ I h) fun u s1 ⟨x, H1, I1, rx, q1⟩ => wpAny_Slice (thn (hl.run pins s1 σ H1 _ I1 q1) fun vl s2 ⟨l, H2, I2, pl, q2⟩ => ?_))))
  rw [evalPart_none]
  refine wpAny_pure ?_
  refine wpAny_pure ?_
  obtain ⟨ll, xs, b, ex, ey, hH, ha, hb1, q2⟩ := q2
  subst ex
  subst ey
  cases (show u = Value.ref ll from rx)
  have I4 : Inv X pins σ H2 { s2 with heap := s2.heap.push { cls := .type "slice", data := .fields #[vl, .none, .none] } } := I2.kept (t' := s2.toks) fun b ob q => Heap.get?_push_of_some _ q
  obtain ⟨z, its, n, r, hl', e⟩ := I4.lstM hH
  refine delItem_sliceB (a := xs.length - b) (b := -(b : Int)) e (Heap.IsSliceOf.new ..) pl (by rw [List.size_toArray, ← hl']; exact bounds_last ha hb1) (by omega) (by rw [List.size_toArray]; omega) fun g hg => wpAny_deleteEach_nil ⟨σ, _, I4.lset (its' := its.take (xs.length - b)) (t' := s2.toks) hH e hg (r.take (xs.length - b)) ?_, q2⟩
  rw [List.length_take]
  omega
/-- xs[-b:] -/
theorem cutV_last4 {xs : List V} {b : Nat} (h : b ≤ xs.length) (hb : 1 ≤ b) : cutV xs (some (-(b : Int))) none = xs.drop (xs.length - b) := by
  unfold cutV
  have e : HT.sIx xs.length xs.length none = xs.length := rfl
  have e2 : HT.sIx xs.length 0 (some (-(b : Int))) = xs.length - b := by
    show (if (-(b : Int)) < 0 then ((-(b : Int)) + (xs.length : Int)).toNat else _) = _
    rw [if_pos (by omega)]
    omega
  rw [e, e2]
  exact List.take_of_length_le (by simp)
/-- x.split(y), a token out -/
theorem pet_split {o e : Expr} {to te : TE} {apos pos : Pos} (ho : PET X o to) (he : PE X e te) (hs : starEach [e] X.env = [(false, eval e X.env)] := by rfl) (hbase : attributeBase o "split" X.env (eval o X.env) = eval o X.env := by rfl) (hline : (apos.endLine == pos.line) = true := by rfl) :
    PET X (.Call (.Attribute o "split" apos) [e] [] pos) (tM1 (fun x xs H Q => ∃ a b, x = .str a ∧ xs = [.str b] ∧ (b.length == 0) = false ∧ a.length + 2 ≤ sizeLine ∧ rNewStrs (Txt.split a b) H Q) to te) := by
  intro pins s σ H Q h0 I h
  refine PySem.Call_method1 hbase hs hline (thn (ho pins s σ H _ h0 I h) fun u s1 got => ?_)
  obtain ⟨x, H1, I1, rx, ⟨a, ex⟩, q1⟩ := got
  subst ex
  obtain ⟨tk, rfl⟩ := _root_.id rx
  refine ⟨"str", _, PySem.F.plainAttrs_str, PySem.F.slot_str_split, PySem.F.type_str_split, typeIs_str _ _ _, (fun _ e => nomatch e), Calls.callWith_builtin rfl (Calls.evalArgs_plain (Calls.spliced_cons ?_))⟩
  exact thn (he.run pins s1 σ H1 _ I1 q1) fun u2 s2 ⟨y, H2, I2, ry, q2⟩ => Calls.spliced_nil (mt_split pins s2 σ H2 _ [y] _ [u2] Q I2 rx (.cons ry .nil) q2)
end
end KT

namespace V2
open PySem PySem.Spec PyProof.Rows L2 NdefX LamX KT
open PySem.W (Frag)
/-- a def whose body wants a token -/
theorem fun_okT {P : Program} {w : World} {K : Frag} {mg : Str → Option Value} {base : Heap} {x qual : Str} {st : Stmt} {f : Addr} {fd : FuncData} {N ps : List Str} {k : Nat} {sp : Sp} (F : Fun K x qual st f fd) (S : FnScope N ps (defScope st)) (hnc : ∀ y ∈ (defScope st).names, y.2 ≠ .cell) (hps : 1 ≤ ps.length) (len : ∀ vs H Q E, sp vs H Q E → vs.length = ps.length)
    (hbody : ∀ (cdv : Value) (A : Around) (outer : List Env) (s : Shared) (H : Hp) (vs : List V) (Q : VK) (E : XK), Room k (A.deeper (envOfC qual (defScope st) s.heap.objs.size f cdv)) → sp vs H Q E →
      ∃ t, PSsT (cxOf CX0 P w K mg base N qual (defScope st) f cdv A outer s H E) (defBody st) t ∧ t { nx := fun _ H' => Q .non H', rt := Q } (start N vs) H) : FnOk P w K mg base CX0 (k + 1) f fd ps sp := by
  obtain ⟨oc, od, kV, doc, pm, an, cdv, ct, osl, rfl, lk, hcd⟩ := F.ex
  exact fn_ofT lk hcd S hnc hps len fun A outer s H vs Q E hr hsp => hbody cdv A outer s H vs Q E hr hsp
theorem rd_none : ∀ ps : List Str, ps.foldl rd1 none = none
  | [] => rfl
  | _ :: r => rd_none r
theorem rd_short {st : List D} (h : st.length < 4) : rd1 (some st) (ch 41) = none := by
  simp only [rd1, if_pos]
  split
  · rename_i b g a x r e
    have := congrArg List.length e
    rw [List.length_reverse] at this
    simp only [List.length_cons] at this
    omega
  · rfl
theorem rd_long {r : List D} {x a g b : D} : rd1 (some (r ++ [x, a, g, b])) (ch 41) = some (r ++ [.t [g, a, b]]) := by
  simp only [rd1, if_pos]
  have e : (r ++ [x, a, g, b]).reverse = b :: g :: a :: x :: r.reverse := by simp
  rw [e]
  simp
theorem rd_other {st : List D} {p : Str} (h : ¬ p = ch 41) : rd1 (some st) p = some (st ++ [.s p]) := by
  simp only [rd1]
  rw [if_neg h]
/-- closing brackets -/
def clo (l : List Str) : Nat := (l.filter fun p => decide (p = ch 41)).length
theorem clo_app (l m : List Str) : clo (l ++ m) = clo l + clo m := by simp [clo]
theorem clo_le : ∀ l : List Str, clo l ≤ (jn [32] (l.map (·.cps.toList))).count 41 := by
  have one : ∀ p : Str, clo [p] ≤ p.cps.toList.count 41 := fun p => by
    unfold clo
    by_cases c : p = ch 41
    · rw [c]; decide
    · simp [c]
  have two : ∀ (p : Str) (l : List Str), clo (p :: l) = clo [p] + clo l := fun p l => clo_app [p] l
  intro l
  induction l with
  | nil => simp [clo]
  | cons p l ih =>
    cases l with
    | nil => exact one p
    | cons q l =>
      rw [two]
      show _ ≤ (p.cps.toList ++ [32] ++ jn [32] ((q :: l).map fun z : Str => z.cps.toList)).count 41
      rw [List.count_append, List.count_append]
      have := one p
      omega
theorem sub_count (l : List Nat) : (wide l).count 41 = l.count 41 := by
  induction l with
  | nil => rfl
  | cons c l ih =>
    have e : wide (c :: l) = wide [c] ++ wide l := wide_app [c] l
    rw [e, List.count_append, ih]
    by_cases h1 : c = 40
    · subst h1; rw [show wide [40] = [40, 32] by decide]; simp
    · by_cases h2 : c = 41
      · subst h2; rw [show wide [41] = [32, 41] by decide]; simp; omega
      · have e2 : wide [c] = [c] := by
          unfold wide
          rw [sub_none (l := [c]) (by simpa using fun z => h1 z.symm), sub_none (l := [c]) (by simpa using fun z => h2 z.symm)]
        rw [e2]
        have : (c :: l).count 41 = [c].count 41 + l.count 41 := by rw [show c :: l = [c] ++ l from rfl, List.count_append]
        omega
def parts (x : Str) : List Str := Txt.split (wideS x) (ch 32)
theorem clo_parts (x : Str) : clo (parts x) ≤ x.cps.toList.count 41 := by
  have h := clo_le (parts x)
  have e : jn [32] ((parts x).map (·.cps.toList)) = (wideS x).cps.toList := by
    have q := jn_is (ch 32) (parts x)
    rw [show Str.join (ch 32) (parts x) = wideS x from StrLaws.join_split _ _] at q
    exact q.symm
  rw [e, wideS_l, sub_count] at h
  exact h
theorem wide_len (l : List Nat) : (wide l).length ≤ 2 * l.length := by
  induction l with
  | nil => simp [wide, sub]
  | cons c l ih =>
    have e : wide (c :: l) = wide [c] ++ wide l := wide_app [c] l
    have e2 : (wide [c]).length ≤ 2 := by
      by_cases h1 : c = 40
      · subst h1; decide
      · by_cases h2 : c = 41
        · subst h2; decide
        · unfold wide
          rw [sub_none (l := [c]) (by simpa using fun z => h1 z.symm), sub_none (l := [c]) (by simpa using fun z => h2 z.symm)]
          simp
    rw [e, List.length_append]
    simp only [List.length_cons]
    omega
theorem sub_len {c : Nat} {z : List Nat} (hz : z.length ≤ 2) (l : List Nat) : (sub c z l).length ≤ 2 * l.length := by
  induction l with
  | nil => simp [sub]
  | cons d l ih =>
    have e : sub c z (d :: l) = sub c z [d] ++ sub c z l := sub_app c z [d] l
    have e2 : (sub c z [d]).length ≤ 2 := by
      unfold sub
      simp only [List.flatMap_cons, List.flatMap_nil, List.append_nil]
      split
      · exact hz
      · simp
    rw [e, List.length_append]
    simp only [List.length_cons]
    omega
theorem wide_mem {l : List Nat} {c : Nat} (h : c ∈ wide l) : c ∈ l ∨ c = 32 := by
  unfold wide sub at h
  obtain ⟨d, hd, hc⟩ := List.mem_flatMap.mp h
  obtain ⟨e, he, hd⟩ := List.mem_flatMap.mp hd
  split at hd
  · rename_i q
    simp only [List.mem_cons, List.not_mem_nil, or_false] at hd
    rcases hd with rfl | rfl
    · rw [if_neg (by decide)] at hc
      rw [List.mem_singleton] at hc
      exact .inl (by rw [hc, ← q]; exact he)
    · rw [if_neg (by decide)] at hc
      exact .inr (List.mem_singleton.mp hc)
  · rw [List.mem_singleton] at hd
    subst hd
    split at hc
    · rename_i q
      simp only [List.mem_cons, List.not_mem_nil, or_false] at hc
      rcases hc with rfl | rfl
      · exact .inr rfl
      · exact .inl (by rw [← q]; exact he)
    · exact .inl (by rw [List.mem_singleton.mp hc]; exact he)
/-- a text that may be read -/
def RdOk (x : Str) : Prop := (∀ c ∈ x.cps.toList, c < 128) ∧ x.length ≤ 20000 ∧ (x.cps.toList.count 41 ≤ 50 ∨ (44 ∉ x.cps.toList ∧ 10 ∉ x.cps.toList ∧ rdD x = .o))
theorem jn_mem {y : List Nat} {c : Nat} : ∀ {l : List (List Nat)} {a : List Nat}, a ∈ l → c ∈ a → c ∈ jn y l
  | [a], b, h, hc => by rw [List.mem_singleton.mp h] at hc; exact hc
  | a :: b :: r, x, h, hc => by
    show c ∈ a ++ y ++ jn y (b :: r)
    rcases List.mem_cons.mp h with rfl | h
    · simp [hc]
    · simp [jn_mem (y := y) h hc]
theorem part_mem {x y p : Str} (h : p ∈ Txt.split x y) : ∀ c ∈ p.cps.toList, c ∈ x.cps.toList := fun c hc => by
  have q := jn_is y (Txt.split x y)
  rw [StrLaws.join_split] at q
  rw [q]
  exact jn_mem (List.mem_map.mpr ⟨p, h, rfl⟩) hc
theorem part_ok {x p : Str} (h : RdOk x) (hp : p ∈ parts x) : TxtOk p := by
  have l := part_short (x := wideS x) hp
  have lw := wide_len x.cps.toList
  rw [← wideS_l, ← len_cps, ← len_cps] at lw
  have := h.2.1
  refine txt_of (fun c hc => ?_) (by omega)
  have q := part_mem hp c hc
  rw [wideS_l] at q
  rcases wide_mem q with q | q
  · exact h.1 c q
  · omega
section
variable {P : Program} {w : World} {K : Frag} {mg : Str → Option Value} {base : Heap} {T : List (Addr × Str)}
def spPutTogether : Sp := fun vs H Q _ => ∃ x : Str, vs = [.str x] ∧ RdOk x ∧ ∀ v' H', Same H H' → DAt H' v' (rdD x) → (rdD x).dep ≤ 60 → (rdD x).size ≤ 60000 → Q v' H'
theorem ok_putTogether {f : Addr} {fd : FuncData} (T : Top K mg "_put_together" sPutTogether pPutTogether f fd) (B : Blt mg) : FnOk P w K mg base CX0 1 f fd pPutTogether spPutTogether := by
  refine fun_okT T.F scPutTogether (by decide +kernel) (by decide) (fun vs H Q E h => ?_) (fun cdv A outer s H vs Q E hr h => ?_)
  · obtain ⟨_, rfl, _⟩ := h
    rfl
  · obtain ⟨x, rfl, hx, k⟩ := h
    refine ⟨_, psst_cons (PST.of (ps_set (i := 1) scPutTogether.nd rfl (Or.inl rfl) (pe_lst pa_nil))) (psst_cons (pst_for (passes_of rfl) rfl (pit_list (KT.pet_split (CwR.pet_replT (CwR.pet_replC (pv 0))) pe_str)) (pg_name (i := 2) scPutTogether.nd rfl (Or.inl rfl))
        (pss_one (ps_if (pt_cmpR op_ne (pv 2) pe_str (nomark _)) (pss_one (ps_expr (pe_bm PySem.F.plainAttrs_list PySem.F.slot_list_append PySem.F.type_list_append mt_append (pv 1) (pa_cons (pv 2) pa_nil)))) (pss_one (ps_if (pt_cmpR op_lt (pe_callB call_len_seq (by rfl) B.len PySem.boot_len (pa_cons (pv 1) pa_nil)) pe_int (nomark _)) (pss_one (ps_ret pe_non))
          (pss_cons (ps_asg (pe_slice sl_list (pv 1) (po_some (pe_un un_neg pe_int)) po_none) (pg_lst (by rfl) (pgs_cons (pg_name (i := 3) scPutTogether.nd rfl (Or.inl rfl)) (pgs_cons (pg_name (i := 4) scPutTogether.nd rfl (Or.inl rfl)) (pgs_cons (pg_name (i := 5) scPutTogether.nd rfl (Or.inl rfl)) (pgs_cons (pg_name (i := 6) scPutTogether.nd rfl (Or.inl rfl)) pgs_nil))))))
      (pss_cons (KT.ps_delLast (pv 1) (po_some (pe_un un_neg pe_int)))
      (pss_one (ps_expr (pe_bm PySem.F.plainAttrs_list PySem.F.slot_list_append PySem.F.type_list_append mt_append (pv 1) (pa_cons (pe_tup (pa_cons (pv 5) (pa_cons (pv 4) (pa_cons (pv 6) pa_nil)))) pa_nil)))))))))))
      (PSsT.of (pss_one (ps_ret (pe_ifExp (pt_cmpR op_eq (pe_callB call_len_seq (by rfl) B.len PySem.boot_len (pa_cons (pv 1) pa_nil)) pe_int (nomark _)) (pe_ix ix_list (pv 1) pe_int (fun _ _ => rfl)) pe_non))))), ?_⟩
    obtain ⟨hc, hl, h41⟩ := id hx
    have z1 : ("( " : Str) = ⟨#[40, 32]⟩ := by decide +kernel
    have z2 : (" )" : Str) = ⟨#[32, 41]⟩ := by decide +kernel
    have ep : Txt.split (Txt.replace (Txt.replace x ("(" : Str) ("( " : Str)) (")" : Str) (" )" : Str)) (" " : Str) = parts x := by rw [lit40, lit41, lit32, z1, z2]; rfl
    have l2 : ("( " : Str).length = 2 := by decide +kernel
    have l3 : (" )" : Str).length = 2 := by decide +kernel
    have l1 : (Txt.replace x ("(" : Str) ("( " : Str)).length ≤ 2 * x.length := by
      rw [lit40, z1, len_cps, replace_is _ _ _ (by decide), len_cps x]
      exact sub_len (by decide) _
    have lw : (Txt.replace (Txt.replace x ("(" : Str) ("( " : Str)) (")" : Str) (" )" : Str)).length ≤ 2 * x.length := by
      rw [lit40, lit41, z1, z2]
      show (wideS x).length ≤ _
      rw [len_cps, wideS_l, len_cps x]
      exact wide_len _
    refine ⟨by show 0 ≤ sizeLine; exact Nat.zero_le _, fun W hW => ?_⟩
    refine ⟨_, rfl, x, rfl, by rw [l2]; omega, _, rfl, by rw [l3]; omega, ⟨_, rfl⟩, _, _, rfl, rfl, by decide +kernel, by rw [sizeLine_eq]; omega, fun p hp => ⟨p, rfl, ⟨_, SqL.of upd_same⟩, ?_⟩⟩
    rw [ep]
    have nWp : W ≠ p := ne_of_none upd_same hp
    have lp : (parts x).length ≤ 60000 := by
      have q := split_le (wideS x) (ch 32)
      have q2 := wide_len x.cps.toList
      rw [← wideS_l, ← len_cps, ← len_cps] at q2
      have : (parts x).length ≤ (wideS x).length + 2 := q
      omega
    have s0 : Same H (upd (upd H W (.lst [])) p (.lst ((parts x).map V.str))) := (same_upd hW).trans (same_upd hp)
    refine for_list (K := K) (xs := (parts x).map V.str) (fun i σ H' => ∃ (v2 v3 v4 v5 v6 : Option V) (st : List D) (vs : List V), σ = [some (.str x), some (.ref W), v2, v3, v4, v5, v6] ∧ Same H H' ∧ H' p = some (.lst ((parts x).map V.str)) ∧ H' W = some (.lst vs) ∧ DsAt H' vs st ∧ ((parts x).take i).foldl rd1 (some []) = some st ∧ sizeAll st ≤ i ∧ st.length ≤ i ∧ ∀ u ∈ st, u.dep ≤ clo ((parts x).take i))
      ⟨none, none, none, none, none, [], [], rfl, s0, upd_same, by rw [upd_ne nWp, upd_same], .nil, by simp, by simp [sizeAll], by simp, fun u hu => by cases hu⟩ (fun i σ H' _ ⟨_, _, _, _, _, _, _, _, _, e, _⟩ => SqL.of e) ?_ ?_
    · rintro i y σ H' hy ⟨v2, v3, v4, v5, v6, st, vs, rfl, sH, ePp, eW, hD, hf, hz, hn, hdp⟩
      rw [List.getElem?_map] at hy
      obtain ⟨z, hzi, rfl⟩ := Option.map_eq_some_iff.mp hy
      obtain ⟨hi, _⟩ := List.getElem?_eq_some_iff.mp hzi
      have mz := List.mem_of_getElem? hzi
      have lv := hD.length
      have tk1 : (parts x).take (i + 1) = (parts x).take i ++ [z] := by rw [List.take_add_one, hzi]; rfl
      have hf1 : ((parts x).take (i + 1)).foldl rd1 (some []) = rd1 (some st) z := by rw [tk1, List.foldl_append, hf]; rfl
      have hcl : clo ((parts x).take (i + 1)) = clo ((parts x).take i) + clo [z] := by rw [tk1, clo_app]
      by_cases c : z = ch 41
      · subst c
        have c1 : clo [ch 41] = 1 := by decide
        refine ⟨_, rfl, rfl, false, congrArg V.bl (by rw [lit41]; simp), iteF ?_⟩
        refine ⟨_, rfl, W, vs, rfl, .inl (SqL.of eW), _, _, rfl, rfl, _, rfl, ?_⟩
        by_cases c4 : vs.length < 4
        · rw [decide_eq_true (show ((vs.length : Nat) : Int) < 4 by omega)]
          refine iteT ?_
          have e0 : rdD x = .o := by
            unfold rdD rdAll
            have q : (Txt.split (wideS x) (ch 32)).foldl rd1 (some []) = none := by
              show (parts x).foldl rd1 (some []) = none
              rw [← List.take_append_drop (i + 1) (parts x), List.foldl_append, hf1, rd_short (by omega), rd_none]
            rw [q]
          exact k .non H' sH (by rw [e0]; exact .o) (by rw [e0]; simp [D.dep]) (by rw [e0]; simp [D.size])
        · rw [decide_eq_false (show ¬ ((vs.length : Nat) : Int) < 4 by omega)]
          refine iteF ⟨_, rfl, _, rfl, _, rfl, W, vs, rfl, SqL.of eW, fun S nS => ?_⟩
          have ecut : cutV vs (some (-4)) none = vs.drop (vs.length - 4) := KT.cutV_last4 (b := 4) (by omega) (by decide)
          rw [ecut]
          have est : st = st.take (st.length - 4) ++ st.drop (st.length - 4) := (List.take_append_drop _ _).symm
          obtain ⟨u0, u1, u2, u3, e4⟩ : ∃ u0 u1 u2 u3, st.drop (st.length - 4) = [u0, u1, u2, u3] := by
            have l4 : (st.drop (st.length - 4)).length = 4 := by rw [List.length_drop]; omega
            match st.drop (st.length - 4), l4 with
            | [a, b, c, d], _ => exact ⟨a, b, c, d, rfl⟩
          obtain ⟨D1, D2⟩ := DsAt.split (us := vs) (by rw [← est]; exact hD)
          have elt : (st.take (st.length - 4)).length = vs.length - 4 := by rw [List.length_take]; omega
          rw [elt] at D1 D2
          rw [e4] at D2 est
          obtain ⟨y0, y1, y2, y3, ed, k0, k1, k2, k3⟩ : ∃ y0 y1 y2 y3, vs.drop (vs.length - 4) = [y0, y1, y2, y3] ∧ DAt H' y0 u0 ∧ DAt H' y1 u1 ∧ DAt H' y2 u2 ∧ DAt H' y3 u3 := by
            generalize vs.drop (vs.length - 4) = dr at D2 ⊢
            cases D2 with
            | cons a0 D2 => cases D2 with
              | cons a1 D2 => cases D2 with
                | cons a2 D2 => cases D2 with
                  | cons a3 D2 => cases D2; exact ⟨_, _, _, _, rfl, a0, a1, a2, a3⟩
          rw [ed]
          have nWS : W ≠ S := ne_of_none eW nS
          have sS := same_upd (o := .lst [y0, y1, y2, y3]) nS
          refine ⟨S, _, rfl, SqL.of upd_same, rfl, _, _, rfl, _, _, rfl, _, _, rfl, _, _, rfl, rfl, ?_⟩
          dsimp only
          have eW1 := sS _ _ eW
          refine ⟨_, rfl, _, rfl, _, rfl, W, vs, 4, rfl, rfl, eW1, by omega, by decide, ?_⟩
          refine ⟨_, rfl, .inl ⟨rfl, _, SqL.of upd_same⟩, _, rfl, _, rfl, _, rfl, by show 3 ≤ sizeLine; rw [sizeLine_eq]; omega, fun tp ntp => ?_⟩
          have ntW : tp ≠ W := fun z => by rw [z, upd_same] at ntp; cases ntp
          refine ⟨W, _, .ref tp, rfl, rfl, by rw [upd_ne ntW.symm, upd_same], by rw [List.length_take, sizeLine_eq]; omega, ?_⟩
          have tkS := TK.of_same sS
          have tkW : TK (upd H' S (.lst [y0, y1, y2, y3])) (upd (upd H' S (.lst [y0, y1, y2, y3])) W (.lst (vs.take (vs.length - 4)))) := TK.upd_lst eW1
          have tkA := (tkS.trans tkW).trans ((TK.upd_new (o := .tup [y2, y1, y3]) ntp).trans (TK.upd_lst (a := W) (xs := vs.take (vs.length - 4)) (ys := vs.take (vs.length - 4) ++ [.ref tp]) (by rw [upd_ne ntW.symm, upd_same])))
          have hsz : sizeAll st = sizeAll (st.take (st.length - 4)) + (u0.size + (u1.size + (u2.size + (u3.size + 0)))) := by
            conv => lhs; rw [est]
            rw [sizeAll_app]
            rfl
          have mem4 : ∀ u ∈ [u0, u1, u2, u3], u ∈ st := fun u hu => by rw [est]; exact List.mem_append.mpr (.inr hu)
          refine ⟨_, _, _, _, _, st.take (st.length - 4) ++ [.t [u2, u1, u3]], _, rfl, ?_, ?_, upd_same, (D1.mono tkA).append (.cons (.t ?_ (.cons (k2.mono tkA) (.cons (k1.mono tkA) (.cons (k3.mono tkA) .nil)))) .nil), ?_, ?_, ?_, fun u hu => ?_⟩
          · exact same_over ((same_over (sH.trans sS) hW).trans (same_upd ntp)) hW
          · have np1 : p ≠ W := nWp.symm
            have q1 := sS _ _ ePp
            have ntp' : tp ≠ p := fun z => by rw [z, upd_ne np1, q1] at ntp; cases ntp
            rw [upd_ne np1, upd_ne ntp'.symm, upd_ne np1]
            exact q1
          · rw [upd_ne ntW, upd_same]
          · rw [hf1]
            conv => lhs; rw [est]
            exact rd_long
          · rw [sizeAll_app]
            simp only [sizeAll, D.size]
            have := u0.size_pos
            omega
          · rw [List.length_append, List.length_take]
            simp only [List.length_cons, List.length_nil]
            omega
          · rw [hcl, c1]
            rcases List.mem_append.mp hu with hu | hu
            · have := hdp u (List.mem_of_mem_take hu)
              omega
            · rw [List.mem_singleton.mp hu]
              have q1 := hdp u1 (mem4 u1 (by simp))
              have q2 := hdp u2 (mem4 u2 (by simp))
              have q3 := hdp u3 (mem4 u3 (by simp))
              simp only [D.dep, depAll]
              omega
      · refine ⟨_, rfl, rfl, true, congrArg V.bl (by rw [lit41]; simp [c]), iteT ?_⟩
        refine ⟨_, rfl, .inl ⟨rfl, _, SqL.of eW⟩, _, rfl, W, _, .str z, rfl, rfl, eW, by rw [lv, sizeLine_eq]; omega, ?_⟩
        have tkW : TK H' (upd H' W (.lst (vs ++ [.str z]))) := TK.upd_lst eW
        refine ⟨_, _, _, _, _, st ++ [.s z], vs ++ [.str z], rfl, same_over sH hW, by rw [upd_ne nWp.symm]; exact ePp, upd_same, (hD.mono tkW).append (.cons (.s (part_ok hx mz)) .nil), by rw [hf1, rd_other c], ?_, ?_, fun u hu => ?_⟩
        · rw [sizeAll_app]
          simp only [sizeAll, D.size]
          omega
        · rw [List.length_append]
          simp only [List.length_cons, List.length_nil]
          omega
        · rw [hcl]
          rcases List.mem_append.mp hu with hu | hu
          · have := hdp u hu
            omega
          · rw [List.mem_singleton.mp hu]
            simp [D.dep]
    · rintro σ H' ⟨v2, v3, v4, v5, v6, st, vs, rfl, sH, ePp, eW, hD, hf, hz, hn, hdp⟩
      rw [List.length_map] at hz hn
      rw [List.length_map, List.take_length] at hf hdp
      have lv := hD.length
      have hcp := clo_parts x
      have e0 : rdD x = (match some st with | some [d] => d | _ => D.o) := by
        unfold rdD rdAll
        show (match (parts x).foldl rd1 (some []) with | some [d] => d | _ => D.o) = _
        rw [hf]
      refine ⟨_, rfl, W, vs, rfl, .inl (SqL.of eW), rfl, ?_⟩
      match st, vs, hD, e0, hdp, hz with
      | [d], [v], .cons hd .nil, e0, hdp, hz =>
        have e1 : rdD x = d := e0
        refine ⟨true, congrArg V.bl (decide_eq_true rfl), iteT ⟨_, rfl, W, _, _, _, rfl, rfl, SqL.of eW, atI_nat (j := 0) rfl, ?_⟩⟩
        have h1 := hdp d List.mem_cons_self
        simp only [sizeAll] at hz
        rcases h41 with h41 | ⟨_, _, ho⟩
        · exact k v H' sH (by rw [e1]; exact hd) (by rw [e1]; omega) (by rw [e1]; omega)
        · exact k v H' sH (by rw [e1]; exact hd) (by rw [ho]; simp [D.dep]) (by rw [ho]; simp [D.size])
      | [], [], .nil, e0, hdp, hz =>
        have e1 : rdD x = .o := e0
        refine ⟨false, congrArg V.bl (decide_eq_false (by decide)), iteF ?_⟩
        exact k .non H' sH (by rw [e1]; exact .o) (by rw [e1]; simp [D.dep]) (by rw [e1]; simp [D.size])
      | d1 :: d2 :: ds, v1 :: v2 :: vs, .cons _ (.cons _ r), e0, hdp, hz =>
        have e1 : rdD x = .o := e0
        refine ⟨false, congrArg V.bl (decide_eq_false (fun z => by injection z with z; simp only [List.length_cons] at z; omega)), iteF ?_⟩
        exact k .non H' sH (by rw [e1]; exact .o) (by rw [e1]; simp [D.dep]) (by rw [e1]; simp [D.size])
end
end V2

/-! Rules of our own: defs that are called where no repr is under way; errors as values; repr of data. -/
namespace K1
open PySem PySem.Spec PyProof.Rows L2
/-- what FnOk says, of calls made while no repr is under way -/
structure FnG (P : Program) (w : World) (K : PySem.W.Frag) (mg : Str → Option Value) (base : Heap) (k : Nat) (f : Addr) (fd : FuncData) (ps : List Str) (sp : Sp) : Prop where
  len : ∀ vs H Q E, sp vs H Q E → vs.length = ps.length
  run : ∀ (B : Around) (outer : List Env) (s : Shared) (H : Hp) (args : Args) (us : List Value) (vs : List V) (Q : VK), B.guards = some [] → Room k B → Env0 P w K mg base B outer s H →
    BindsTo s fd args (ps.zip us) → Vals vs us → sp vs H Q E0 → codeAny (model P w) B (.call (.ref f) args) (CR CX0 outer P w H s Q E0) s
theorem gn_of {P : Program} {w : World} {K : PySem.W.Frag} {mg : Str → Option Value} {base : Heap} {x qual : Str} {st : Stmt} {f : Addr} {fd : FuncData} {N ps : List Str} {k : Nat} {sp : Sp} (F : Fun K x qual st f fd)
    (S : FnScope N ps (defScope st)) (len : ∀ vs H Q E, sp vs H Q E → vs.length = ps.length)
    (body : ∀ (cdv : Value) (B : Around) (outer : List Env) (s : Shared) (H : Hp) (vs : List V) (Q : VK), B.guards = some [] → Room k (B.deeper (envOfC qual (defScope st) s.heap.objs.size f cdv)) → sp vs H Q E0 →
      ∃ t, PSs (cxOf CX0 P w K mg base N qual (defScope st) f cdv B outer s H E0).nox (defBody st) t ∧ t { nx := fun _ H' => Q .non H', rt := Q } (start N vs) H) :
    FnG P w K mg base (k + 1) f fd ps sp := by
  obtain ⟨oc, od, kV, doc, pm, an, cdv, ct, osl, rfl, lk, hcd⟩ := F.ex
  refine ⟨len, fun B outer s H args us vs Q hg hr e0 hb r hsp => ?_⟩
  have hl := len _ _ _ _ hsp
  have KX : K.In s.heap := e0.mod.kin.keeps fun b o e => (e0.bs b o e).1
  have lim : s.heap.NoLimit := e0.mod.nolimit.keeps fun b o e => (e0.bs b o e).1
  have kinds : ∀ y ∈ ps.zip us, (defScope st).names.lookup y.1 = some .local ∨ ((defScope st).names.lookup y.1 = some .cell ∧ ((cellsFrom (s.heap.objs.size + 1) (defScope st).names []).lookup y.1).isSome = true) := by
    rintro ⟨n, v⟩ hy
    exact (S.par n (List.of_mem_zip hy).1).imp id fun q => ⟨q, PySem.W.cellsFrom_some _ _ _ (.inl q)⟩
  refine codeAny_call_function hr.depth (KX _ _ lk) rfl S.co S.gen rfl (PySem.W.codeRec_of KX hcd) (hb _ _ _ _ ?_)
  refine wpAny_newFunctionEnv_cells S.kind kinds fun env he s1 z => ?_
  subst he
  refine ⟨lim.keeps z.toInCall.keep, codeAny_func ?_⟩
  obtain ⟨t, ht, hq⟩ := body cdv B outer s H vs Q hg (hr.deeper _) hsp
  have I := inv_start (CX := CX0) (E := E0) S hr.hd e0 hl r z
  refine wpAny_mono (ht.nox.run [] s1 (start N vs) H _ I hq) (fun fl s' hs => ?_) fun e s' hs => hs
  cases fl with
  | ret u =>
    obtain ⟨v, σ', H', J, rv, q⟩ := hs
    exact ⟨v, H', J.os, J.bare, J.base, J.hok, rv, q⟩
  | next =>
    obtain ⟨σ', H', J, q⟩ := hs
    exact ⟨V.non, H', J.os, J.bare, J.base, J.hok, rfl, q⟩
  | brk =>
    obtain ⟨_, _, _, q⟩ := hs
    exact False.elim q
  | cont =>
    obtain ⟨_, _, _, q⟩ := hs
    exact False.elim q
section
variable {X : Cx} {k : Nat} {f : Addr} {fd : FuncData} {ps : List Str} {sp : Sp} {x : Str} {p pos : Pos} {e : Expr} {es : List Expr} {t : TA}
theorem run_gn {pins : List (Addr × Obj)} {σ : L2.St} {H : Hp} {s : Shared} {Q : VK} {us : List Value} {vs : List V} (F : FnG X.prog X.w X.K X.mg X.base k f fd ps sp) (hG : X.A.guards = some []) (hr : Room k X.A) (hb : Binds X.K fd ps [])
    (I : Inv X pins σ H s) (r : Vals vs us) (h : sp vs H Q E0) : wpAny (model X.prog X.w) X.A (call (.ref f) us) (EP X pins σ Q) X.xe s := by
  have hl : (us ++ []).length = ps.length := by
    rw [List.append_nil, ← r.length]
    exact F.len _ _ _ _ h
  have hb' := hb s us I.kIn hl
  rw [List.append_nil] at hb'
  refine wpAny_call (codeAny_mono (F.run X.A X.stack s H ⟨us, []⟩ us vs Q hG hr I.env0 hb' r h) fun q s' hq => ?_)
  match q, hq with
  | .error _, hq => exact False.elim hq
  | .ok (.ret _), hq => exact I.after hq
  | .ok .next, hq => exact False.elim hq
  | .ok .brk, hq => exact False.elim hq
  | .ok .cont, hq => exact False.elim hq
theorem pe_gcall (F : FnG X.prog X.w X.K X.mg X.base k f fd ps sp) (hG : X.A.guards = some []) (hr : Room k X.A) (hg : Gl X x) (hm : X.mg x = some (.ref f)) (hk : PySem.W.keepIn X.K (.ref f) = true) (hb : Binds X.K fd ps [])
    (ha : PA X (e :: es) t) (hdb : (x == ("__debug__" : Str)) = false := by decide) (he : starEach (e :: es) X.env = (false, eval e X.env) :: starEach es X.env := by rfl) (hpl : (backTo pos (starEach es X.env)).any (·.1) = false := by rfl) :
    PE X (.Call (.Name x p) (e :: es) [] pos) (fun σ H Q => t σ H fun vs H1 => sp vs H1 Q E0) := by
  refine ⟨fun pins s σ H Q I h => wpAny_Call_Name_kw (ld_glob I hg hm ?_ hdb)⟩
  exact PySem.W.callWith_K (h₀ := X.base) I.ok.mod.kin hk (thn (ha.run pos pins s σ H _ I h) fun us s1 ⟨vs, H1, I1, r, q⟩ => ⟨I1.kIn, run_gn F hG hr hb I1 r q⟩) he hpl
end
end K1

namespace PySem
namespace HandSPX
open Builtin Builtin.ObjectAttr
section
variable {M : Model} {A : Around} {E : Value → Shared → Prop} {h : Heap} {g : Array GenState} {d : Drawn} {t : Nat} {os : OsState}
variable {nm q : Str} {C N : Addr} {bs bm bmB : List Value} {hdct : Bool} {sn : List Str} {sub : List Value} {ab : Bool} {col : Option Bool} {dd : Option Addr} {k0 k1 k2 k3 k5 : Option Value} {B newId initId : String} {kw : List (Str × Value)} {rest : List Value}
theorem kwCheckNew (F : ExcBaseFacts B newId initId bmB) (same : ∀ X : String, bm.contains (.type X) = bmB.contains (.type X)) {Q : Unit → Shared → Prop}
    (at_C : h.get? C = some (excClassObj nm q C N bs bm hdct sn sub ab col dd k0 k1 k2 k3 k5 newId)) (hq : Q () ⟨h, g, d, t, os⟩) : wpAny M A (checkBuiltinCall newId ⟨.ref C :: rest, kw⟩) Q E ⟨h, g, d, t, os⟩ := by
  have inB : (Value.ref C :: bm).contains (.type B) = true := by
    rw [List.contains_cons, same, F.hasB, Bool.or_true]
  have star := F.noStar
  simp only [checkBuiltinCall, F.newKind, F.newSplit, F.newRow]
  repeat (first | refine wpAny_loadPart_at at_C ?_ | (refine wpAny_isSubtype_exc at_C ?_; rw [inB]) | refine wpAny_staticBase_exc at_C ?_ | refine wpAny_madeBy_exc at_C ?_ | simp only [bne_self_eq_false, Bool.false_eq_true, if_false] | wp_step)
  all_goals exact hq
end
section
variable {prog : Program} {w : World} {A : Around} {E : Value → Shared → Prop} {R : Result → Shared → Prop} {h : Heap} {g : Array GenState} {d : Drawn} {t : Nat} {os : OsState}
variable {nm q : Str} {C N : Addr} {bs bm bmB : List Value} {hdct : Bool} {sn : List Str} {sub : List Value} {ab : Bool} {col : Option Bool} {dd : Option Addr} {k0 k1 k2 k3 k5 : Option Value} {B newId initId : String} {kw : List (Str × Value)} {rest : List Value}
theorem kwNew (F : ExcBaseFacts B newId initId bmB) (same : ∀ X : String, bm.contains (.type X) = bmB.contains (.type X))
    (at_C : h.get? C = some (excClassObj nm q C N bs bm hdct sn sub ab col dd k0 k1 k2 k3 k5 newId))
    (hq : R (.ok (.ret (.ref (h.objs.size + 1)))) ⟨(h.push (W.kdv_tup rest)).push (excO C h.objs.size), g, d, t, os⟩) (few : rest.length ≤ sizeLine) :
    codeAny (model prog w) A (.builtin newId ⟨.ref C :: rest, kw⟩) R ⟨h, g, d, t, os⟩ := by
  have ends := F.ends
  have inB : (Value.ref C :: bm).contains (.type B) = true := by
    rw [List.contains_cons, same, F.hasB, Bool.or_true]
  have inA : (Value.ref C :: bm).contains (.type "AttributeError") = false := by
    rw [List.contains_cons, same, F.noAttr]
    rfl
  have inN : (Value.ref C :: bm).contains (.type "NameError") = false := by
    rw [List.contains_cons, same, F.noName]
    rfl
  refine codeAny_builtinAt F.entry ?_
  unfold Builtin.«BaseException.__new__»
  refine wpAt_bind ?_
  show wpAt _ _ _ (stack >>= _) _ _ _
  refine wpAt_bind (wpAt_stack fun p below => wpAt_of_wpAny ?_)
  wp_walk
  refine wpAt_of_wpAny ?_
  rw [F.owner]
  repeat (first | with_reducible refine wpAny_madeHere_exc F.canon at_C ?_ | with_reducible refine wpAny_loadPart_at at_C ?_ | (with_reducible refine wpAny_isSubtype_exc at_C ?_; first | rw [inB] | rw [inA] | rw [inN]) | wp_step)
  show R _ _
  rw [Heap.size_push]
  exact hq
theorem kwTypeCall (F : ExcBaseFacts B newId initId bmB) (same : ∀ X : String, bm.contains (.type X) = bmB.contains (.type X)) {fI : Addr} {Q : Fin → Shared → Prop}
    (at_C : h.get? C = some (excClassObj nm q C N bs bm hdct sn sub ab col dd k0 k1 k2 k3 k5 newId))
    (hi : W.Looks (model prog w) h (typeLookup (.ref C) "__init__") (some (.ref fI))) (hb : ∀ self, W.Looks (model prog w) h (bindSpecial (.ref fI) self) (.ref fI, [self])) (few : rest.length ≤ sizeLine)
    (hq : codeAny (model prog w) A (.call (.ref fI) ⟨.ref (h.objs.size + 1) :: rest, kw⟩)
      (fun r s' => match r with | .ok (.ret v) => v = .none ∧ Q (.done (.ret (.ref (h.objs.size + 1)))) s' | .ok _ => False | .error e => E e s')
      ⟨(h.push (W.kdv_tup rest)).push (excO C h.objs.size), g, d, t, os⟩) :
    wpAny (model prog w) A (Builtin.«type.__call__» ⟨.ref C :: rest, kw⟩) Q E ⟨h, g, d, t, os⟩ := by
  repeat (first | with_reducible refine wpAny_loadPart_at at_C ?_ | with_reducible refine wpAny_madeBy_exc at_C ?_ | wp_step)
  refine codeAny_call_builtin_code (Code.quiet_builtin _ F.quiet) (kwCheckNew F same at_C ?_)
  refine kwNew F same at_C ?_ few
  show wpAny _ _ _ _ _ _
  have keep : ∀ b o, h.get? b = some o → ((h.push (W.kdv_tup rest)).push (excO C h.objs.size)).get? b = some o := fun b o e => Heap.get?_push_of_some _ (Heap.get?_push_of_some _ e)
  have at_C1 := keep _ _ at_C
  have at_e : ((h.push (W.kdv_tup rest)).push (excO C h.objs.size)).get? (h.objs.size + 1) = some (excO C h.objs.size) := by heap_get
  have inC : (Value.ref C :: bm).contains (.ref C) = true := by simp
  have i1 := hi.keeps keep
  have b1 := (hb (.ref (h.objs.size + 1))).keeps keep
  unfold isInstance
  repeat (first | with_reducible refine wpAny_loadPart_at at_e ?_ | (with_reducible refine wpAny_isSubtype_exc at_C1 ?_; rw [inC]) | wp_step)
  show wpAny _ _ (typeLookup (.ref C) _) _ _ _
  refine i1.at (wpAny_holding (wpAny_bind (b1.at ?_)))
  refine wpAny_bind (wpAny_call (codeAny_mono hq fun r s' z => ?_))
  match r, z with
  | .error e, z => exact z
  | .ok (.ret v), z =>
    obtain ⟨rfl, z⟩ := z
    first
      | exact wpAny_pure (wpAny_pure z)
      | (wp_walk; exact z)
  | .ok .next, z => exact z.elim
  | .ok .brk, z => exact z.elim
  | .ok .cont, z => exact z.elim
theorem kwCall (F : ExcBaseFacts B newId initId bmB) (same : ∀ X : String, bm.contains (.type X) = bmB.contains (.type X)) {fI : Addr}
    (at_C : h.get? C = some (excClassObj nm q C N bs bm hdct sn sub ab col dd k0 k1 k2 k3 k5 newId))
    (hi : W.Looks (model prog w) h (typeLookup (.ref C) "__init__") (some (.ref fI))) (hb : ∀ self, W.Looks (model prog w) h (bindSpecial (.ref fI) self) (.ref fI, [self])) (few : rest.length ≤ sizeLine)
    (hq : codeAny (model prog w) (A.under (.builtin "type.__call__" ⟨.ref C :: rest, kw⟩)) (.call (.ref fI) ⟨.ref (h.objs.size + 1) :: rest, kw⟩) (W.InitBack (h.objs.size + 1) R)
      ⟨(h.push (W.kdv_tup rest)).push (excO C h.objs.size), g, d, t, os⟩) :
    codeAny (model prog w) A (.call (.ref C) ⟨rest, kw⟩) R ⟨h, g, d, t, os⟩ := by
  have f1 := tc_lookup
  have f2 := tc_bind (.ref C)
  have isTy : (⟨h, g, d, t, os⟩ : Shared).TypeIs (.ref C) "type" := ⟨_, at_C, rfl⟩
  refine codeAny_of_tree ?_
  show wpAny _ _ (callAny (.ref C) _) _ _ _
  repeat (any_goals (first | assumption | with_reducible refine wpAny_loadPart_at at_C ?_ | wp_step))
  refine ⟨rfl, ?_⟩
  refine codeAny_call_builtin_at (Code.quiet_builtin _ (by decide +kernel)) entry_typeCall (wpAny_check_type_call_sub at_C (kwTypeCall F same at_C hi hb few ?_))
  refine codeAny_mono hq fun r s' z => ?_
  match r, z with
  | .error e, z => exact z
  | .ok (.ret v), z => exact z
  | .ok .next, z => exact z
  | .ok .brk, z => exact z
  | .ok .cont, z => exact z
end
end HandSPX
end PySem

namespace K1
open PySem PySem.Spec PyProof.Rows L2
open PySem.W (Frag)
/-! ### the text of __init__ -/
def eA (p1 p2 p3 : Pos) : Arguments := { posonlyargs := [], args := [{ arg := "self", annotation := none, pos := p1 }, { arg := "value", annotation := none, pos := p2 }], vararg := none, kwonlyargs := [], kw_defaults := [], kwarg := none, defaults := [.Constant .none 0 p3] }
def eB (q1 q2 q3 q4 : Pos) : List Stmt := [.Assign [.Attribute (.Name "self" q1) "value" q2] (.Name "value" q3) q4]
def eS : Scope := { kind := .function, names := [(PySem.Str.ofString "self", .local), (PySem.Str.ofString "value", .local)], isGenerator := false, isCoroutine := false, more := [] }
/-- what the written part says of an error's class at C, and of its __init__ at fI -/
structure ErrC (K : Frag) (mg : Str → Option Value) (x : Str) (C fI : Addr) : Prop where
  gC : mg x = some (.ref C)
  ox : OexC K C
  ga : PySem.W.findIn K (.ref C) "__getattribute__" = some (some (.builtin "BaseException.__getattribute__"))
  gg : PySem.W.findIn K (.ref C) "__getattr__" = some none
  hd : PySem.W.hasDictIn K C = true
  noN : PySem.W.findIn K (.ref C) "value" = some none
  iC : PySem.W.findIn K (.ref C) "__init__" = some (some (.ref fI))
  tI : PySem.W.typeIn K (.ref fI) = some (.type "function")
  fn : ∃ (oc : Value) (od : Option Addr) (kV doc pm : Value) (an : Option Addr) (cdv ct : Value) (osl : Array (Option Value)) (p1 p2 p3 q1 q2 q3 q4 : Pos) (q : Str) (T : Addr) (o : Obj) (n : Nat),
    K.lookup fI = some ⟨oc, od, .func (PySem.W.fnOf "__init__" q (eA p1 p2 p3) (eB q1 q2 q3 q4) eS (.ref T) kV doc pm an cdv ct), osl⟩ ∧ PySem.W.codeIn K cdv q = true ∧ K.lookup T = some o ∧ o.data = .seq #[.none] n
/-- how the one value may be handed: by place, by name, not at all -/
inductive Hand : List Value → List (Str × Value) → Value → Prop where
  | place (u : Value) : Hand [u] [] u
  | name (u : Value) : Hand [] [("value", u)] u
  | not : Hand [] [] .none
theorem hand_few {us : List Value} {kw : List (Str × Value)} {u : Value} (h : Hand us kw u) : us.length ≤ sizeLine := by
  have e : us.length ≤ 1 := by cases h <;> simp
  rw [sizeLine_eq]
  omega
theorem hand_binds {K : Frag} {s : Shared} {T e : Addr} {o : Obj} {n : Nat} {kV doc pm cdv ct u : Value} {an : Option Addr} {p1 p2 p3 q1 q2 q3 q4 : Pos} {q : Str} {us : List Value} {kw : List (Str × Value)} (X : K.In s.heap) (lT : K.lookup T = some o) (oT : o.data = .seq #[.none] n)
    (h : Hand us kw u) : BindsTo s (PySem.W.fnOf "__init__" q (eA p1 p2 p3) (eB q1 q2 q3 q4) eS (.ref T) kV doc pm an cdv ct) ⟨.ref e :: us, kw⟩ [("self", .ref e), ("value", u)] := by
  refine BindsTo.of_looks fun M => ?_
  cases h with
  | place u => exact looks_items X lT oT (.of_pure rfl)
  | name u => exact looks_items X lT oT (.of_pure rfl)
  | not => exact looks_items X lT oT (.of_pure rfl)
/-- what __init__ leaves: the exception at x has its own dict at dx, the value stands in it -/
structure Inited (h h' : Heap) (x C dx t1 : Addr) (v : Value) : Prop where
  keep : ∀ b o, b ≠ x → h.get? b = some o → h'.get? b = some o
  obj : h'.get? x = some { cls := .ref C, dict := some dx, data := .fields #[.ref t1, .none, .none, .none, .bool false, .none] }
  dbig : h.objs.size ≤ dx
  dne : dx ≠ x
  ns : h'.Ns1 dx (fun y => if y = "value" then some v else none)
section
variable {prog : Program} {w : World} {A : Around} {R : Result → Shared → Prop} {s : Shared} {K : Frag} {mg : Str → Option Value} {nm : Str} {C fI : Addr}
theorem local_at {M : Model} {s : Shared} {name : Str} {scope : Scope} {L a : Addr} {cd : Value} {m : Str → Option Value} {x : Str} {pos : Pos} {v : Value} {Q E : Value → Shared → Prop} {B : Around} (hn : s.heap.Ns L m) (hv : m x = some v) (h : Q v s)
    (hk : scope.kind = .function := by rfl) (hl : (envOfC name scope L a cd).kindOf x = some .local := by rfl) (hd : (x == ("__debug__" : Str)) = false := by decide) :
    wpAny M B (eval (.Name x pos) (envOfC name scope L a cd)) Q E s := wpAny_Name (wpAny_loadName_local hk hl hn hv h) hd
theorem err_init (T : ErrC K mg nm C fI) {x t0 : Addr} {us : List Value} {kw : List (Str × Value)} {v : Value} (hh : Hand us kw v) (X : K.In s.heap) (lim : s.heap.NoLimit) (hx : s.heap.get? x = some (PySem.HandSPX.excO C t0)) (room : A.depth < recursionLimit)
    (hq : ∀ h' tk dx, Inited s.heap h' x C dx t0 v → R (.ok (.ret .none)) { s with heap := h', toks := tk }) :
    codeAny (model prog w) A (.call (.ref fI) ⟨.ref x :: us, kw⟩) R s := by
  obtain ⟨oc, od, kV, doc, pm, an, cdv, ct, osl, p1, p2, p3, q1, q2, q3, q4, q, D, oD, nD, ho, hcd, lD, dD⟩ := T.fn
  obtain ⟨n2, qn, N, bs, bm, sn, sub, ab, col, dd, k0, k1, k2, k3, k5, hC, hbm⟩ := T.ox.cls
  have hcl : PySem.W.clsIn K C = some { name := n2, bases := bs, mro := .ref C :: bm, ns := N, qualname := qn, hasDict := true, slotNames := sn, subclasses := sub, abstract := ab, collection := col, hasDel := false } := by
    unfold PySem.W.clsIn
    rw [hC] <;> rfl
  refine Att.call_fn (binds := [("self", .ref x), ("value", v)]) X lim ho hcd room (hand_binds X lD dD hh) (by first | rfl | decide | with_unfolding_all rfl) (fun s1 IC => ?_) rfl rfl rfl
  obtain ⟨h1, tk1, rfl⟩ := IC.toInCall.same
  have keep : ∀ b o, s.heap.get? b = some o → h1.get? b = some o := IC.toInCall.keep
  have hn := IC.toInCall.ns
  have X1 : K.In h1 := X.keeps keep
  have hx1 := keep _ _ hx
  show wpAny _ _ (execs _ _) _ _ _
  refine wpAny_execs_cons (plainObj_wpAny_Assign_Attribute ?_)
  refine local_at (v := v) hn (by first | rfl | with_unfolding_all rfl | kernel_rfl) (local_at (v := .ref x) hn (by first | rfl | with_unfolding_all rfl | kernel_rfl) ?_)
  refine PySem.W.set_plain X1 (ox := PySem.HandSPX.excO C t0) (od := none) ⟨hx1, rfl, rfl, trivial⟩ T.ox.sa ?_
  refine PySem.HandSPX.exc_osa X1 hx1 hcl (show PySem.HandSPX.refsVE (.ref C :: bm) = true from hbm) rfl T.noN (fun h3 tk3 dx k3 dn dne hx3 hn3 => ?_)
  show wpAny _ _ (execs _ _) _ _ _
  have z : s.heap.objs.size < h1.objs.size := hn.lt
  exact wpAny_execs_nil (hq h3 tk3 dx ⟨fun b o hb e => k3 b o hb (keep b o e), hx3, Nat.le_of_lt (Nat.lt_of_lt_of_le z dn), dne, hn3⟩)
/-- a made error: at e, its dict at d -/
structure Made (h h' : Heap) (e C d : Addr) (v : Value) : Prop where
  keep : ∀ b o, h.get? b = some o → h'.get? b = some o
  new : h.objs.size ≤ e
  obj : ∃ t1 : Addr, h'.get? e = some { cls := .ref C, dict := some d, data := .fields #[.ref t1, .none, .none, .none, .bool false, .none] }
  dbig : h.objs.size ≤ d
  dne : d ≠ e
  ns : h'.Ns1 d (fun y => if y = "value" then some v else none)
theorem err_made (T : ErrC K mg nm C fI) {us : List Value} {kw : List (Str × Value)} {v : Value} (hh : Hand us kw v) (X : K.In s.heap) (lim : s.heap.NoLimit) (room : A.depth + 1 < recursionLimit)
    (hq : ∀ h' tk e d, Made s.heap h' e C d v → R (.ok (.ret (.ref e))) { s with heap := h', toks := tk }) :
    codeAny (model prog w) A (.call (.ref C) ⟨us, kw⟩) R s := by
  obtain ⟨n2, qn, N, bs, bm, sn, sub, ab, col, dd, k0, k1, k2, k3, k5, hC, hbm⟩ := T.ox.cls
  obtain ⟨hp, g, dr, tk, os⟩ := s
  have keep : ∀ b o, hp.get? b = some o → ((hp.push (PySem.W.kdv_tup us)).push (PySem.HandSPX.excO C hp.objs.size)).get? b = some o := fun b o e => Heap.get?_push_of_some _ (Heap.get?_push_of_some _ e)
  have at_e : ((hp.push (PySem.W.kdv_tup us)).push (PySem.HandSPX.excO C hp.objs.size)).get? (hp.objs.size + 1) = some (PySem.HandSPX.excO C hp.objs.size) := by heap_get
  refine PySem.HandSPX.kwCall F.excBase_ValueError (fun Y => PySem.HandSPX.refsVE_contains Y bm hbm) (X _ _ hC) (PySem.W.looks_findIn X T.iC) (fun self => PySem.W.bind_fn X self T.tI) (hand_few hh) ?_
  refine err_init (s := ⟨(hp.push (PySem.W.kdv_tup us)).push (PySem.HandSPX.excO C hp.objs.size), g, dr, tk, os⟩) T hh (X.keeps keep) (lim.keeps keep) at_e room fun h' tk' dx M => ?_
  have old : ∀ b o, hp.get? b = some o → h'.get? b = some o := fun b o e => M.keep b o (Nat.ne_of_lt (Nat.lt_succ_of_lt (Heap.lt_size e))) (keep b o e)
  have z : hp.objs.size + 1 + 1 ≤ dx := by
    have q := M.dbig
    simp only [Heap.size_push] at q
    exact q
  exact ⟨rfl, hq h' tk' (hp.objs.size + 1) dx ⟨old, Nat.le_succ _, ⟨_, M.obj⟩, Nat.le_trans (Nat.le_trans (Nat.le_succ _) (Nat.le_succ _)) z, M.dne, M.ns⟩⟩
end
/-! ### errors as values, over the abstract heap -/
/-- at e an error of the class at C whose value is v -/
def ErrAt (H : Hp) (C e : Addr) (v : V) : Prop := ∃ d, H e = some (exo e C (some d)) ∧ H d = some (exd d [(("value" : Str), v)])
theorem ErrAt.same {H H' : Hp} {C e : Addr} {v : V} (k : Same H H') (h : ErrAt H C e v) : ErrAt H' C e v := by
  obtain ⟨d, h1, h2⟩ := h
  exact ⟨d, k _ _ h1, k _ _ h2⟩
section
variable {X : Cx} {pins : List (Addr × Obj)} {σ : L2.St} {H : Hp} {s : Shared} {nm : Str} {C fI : Addr}
theorem one_rel {v : V} {u : Value} (r : RelV v u) (f : Str) : RelO (List.lookup f [(("value" : Str), v)]) (if f = "value" then some u else none) := by
  rw [lookup_put]
  by_cases h : f = "value"
  · rw [if_pos h, if_pos h]
    exact r
  · rw [if_neg h, if_neg h]
    trivial
theorem track_err {h' : Heap} {tk : Nat} {e d : Addr} {v : V} {u : Value} (I : Inv X pins σ H s) (M : Made s.heap h' e C d u) (r : RelV v u) :
    Inv X pins σ (upd (upd H d (exd d [(("value" : Str), v)])) e (exo e C (some d))) { s with heap := h', toks := tk } := by
  obtain ⟨t1, obj⟩ := M.obj
  have he : H e = none := I.hok.fresh M.new
  have hd : H d = none := I.hok.fresh M.dbig
  have ne : ∀ {b : Addr} {o : Obj}, s.heap.get? b = some o → b ≠ e ∧ b ≠ d := fun {b o} q => ⟨Nat.ne_of_lt (Nat.lt_of_lt_of_le (Heap.lt_size q) M.new), Nat.ne_of_lt (Nat.lt_of_lt_of_le (Heap.lt_size q) M.dbig)⟩
  have old : ∀ {b : Addr} {o : HO}, H b = some o → (upd (upd H d (exd d [(("value" : Str), v)])) e (exo e C (some d))) b = some o := fun {b o} q => by
    rw [upd_ne (ne_of_none q he), upd_ne (ne_of_none q hd)]
    exact q
  have U : Un X.fs [] H (upd (upd H d (exd d [(("value" : Str), v)])) e (exo e C (some d))) s.heap h' := {
    keep := fun b o q _ _ _ => M.keep b o q
    slot := fun b o q _ _ _ => ⟨o.slots, M.keep b o q⟩
    free := fun b o q n _ => by
      rw [upd_ne (ne q).1, upd_ne (ne q).2]
      exact n
    there := fun b o q _ => ⟨o, M.keep b o q⟩
    tups := fun b xs q => old q
    frzs := fun b o u q => old q
    tbls := fun b ps q => ⟨#[], by rw [old q]; simp⟩ }
  refine I.un (t' := tk) U fun b o q => ?_
  by_cases hb : b = e
  · subst hb
    rw [upd_same] at q
    injection q with q
    rw [← q]
    exact exo_ok obj
  · rw [upd_ne hb] at q
    by_cases hbd : b = d
    · subst hbd
      rw [upd_same] at q
      injection q with q
      rw [← q]
      exact exd_ok M.ns (one_rel r)
    · rw [upd_ne hbd] at q
      exact (I.hok b o q).stay (fun c v _ z => M.keep c v z) (fun c z => old z) fun c xs z => old z
/-- what is wanted of the making of an error with the value v -/
def Makes (C : Addr) (v : V) (H : Hp) (Q : VK) : Prop := ∀ H' e, Same H H' → H e = none → ErrAt H' C e v → Q (.ref e) H'
theorem run_err (T : ErrC X.K X.mg nm C fI) (hr : Room 1 X.A) {us : List Value} {kw : List (Str × Value)} {v : V} {u : Value} {Q : VK} (hh : Hand us kw u) (r : RelV v u) (I : Inv X pins σ H s) (h : Makes C v H Q) :
    wpAny (model X.prog X.w) X.A (call (.ref C) us kw) (EP X pins σ Q) X.xe s := by
  refine wpAny_call (err_made T hh I.kIn I.nolimit (by have := hr.dp; omega) fun h' tk e d M => ?_)
  have J := track_err (tk := tk) I M r
  have he : H e = none := I.hok.fresh M.new
  have hd : H d = none := I.hok.fresh M.dbig
  refine ⟨.ref e, _, J, rfl, h _ e (fun b o q => ?_) he ⟨d, upd_same, ?_⟩⟩
  · rw [upd_ne (ne_of_none q he), upd_ne (ne_of_none q hd)]
    exact q
  · rw [upd_ne M.dne, upd_same]
variable {p pos kpos : Pos} {a : Expr} {ta : TE}
/-- C(e) -/
theorem pe_err1 (T : ErrC X.K X.mg nm C fI) (hr : Room 1 X.A) (ha : PE X a ta) (hg : Gl X nm := by rfl) (hdb : (nm == ("__debug__" : Str)) = false := by decide)
    (he : starEach (a :: []) X.env = (false, eval a X.env) :: starEach [] X.env := by rfl) : PE X (.Call (.Name nm p) [a] [] pos) (fun σ H Q => ta σ H fun v H1 => Makes C v H1 Q) := by
  refine ⟨fun pins s σ H Q I h => wpAny_Call_Name_kw (ld_glob I hg T.gC ?_ hdb)⟩
  refine PySem.W.callWith_K (h₀ := X.base) I.ok.mod.kin T.ox.kC ?_ he (by rfl)
  have P := pa_cons ha pa_nil he
  refine thn (P.run pos pins s σ H (fun vs H1 => match vs with | [v] => Makes C v H1 Q | _ => False) I h) fun us s1 hh => ?_
  obtain ⟨vs, H1, I1, r1, q1⟩ := hh
  match vs, us, r1, q1 with
  | [v], _, .cons rv .nil, q1 => exact ⟨I1.kIn, run_err T hr (.place _) rv I1 q1⟩
/-- C(value=e) -/
theorem pe_errK (T : ErrC X.K X.mg nm C fI) (hr : Room 1 X.A) (ha : PE X a ta) (hg : Gl X nm := by rfl) (hdb : (nm == ("__debug__" : Str)) = false := by decide)
    (hall : (backToKw pos (keywordEach [⟨some "value", a, kpos⟩] X.env)).all (·.1.isSome) = true := by rfl) (hks : (backToKw pos (keywordEach [⟨some "value", a, kpos⟩] X.env)).filterMap (·.1) = [("value" : Str)] := by rfl)
    (hpl : ((backTo pos (starEach [] X.env)).any (·.1) || (backToKw pos (keywordEach [⟨some "value", a, kpos⟩] X.env)).any (·.1.isNone)) = false := by rfl) :
    PE X (.Call (.Name nm p) [] [⟨some "value", a, kpos⟩] pos) (fun σ H Q => ta σ H fun v H1 => Makes C v H1 Q) := by
  refine ⟨fun pins s σ H Q I h => wpAny_Call_Name_kw (ld_glob I hg T.gC ?_ hdb)⟩
  refine PySem.W.callWith_KW0 (h₀ := X.base) I.ok.mod.kin T.ox.kC hall ?_ hpl
  have P := pk_cons (nm := some "value") (kpos := kpos) ha pk_nil
  refine thn (P.run pos pins s σ H (fun vs H1 => match vs with | [v] => Makes C v H1 Q | _ => False) I h) fun us s1 hh => ?_
  obtain ⟨vs, H1, I1, r1, q1⟩ := hh
  rw [hks]
  match vs, us, r1, q1 with
  | [v], _, .cons rv .nil, q1 => exact ⟨I1.kIn, run_err T hr (.name _) rv I1 q1⟩
/-- C() -/
theorem pe_err0 (T : ErrC X.K X.mg nm C fI) (hr : Room 1 X.A) (hg : Gl X nm := by rfl) (hdb : (nm == ("__debug__" : Str)) = false := by decide) :
    PE X (.Call (.Name nm p) [] [] pos) (fun σ H Q => Makes C .non H Q) := by
  refine ⟨fun pins s σ H Q I h => wpAny_Call_Name_kw (ld_glob I hg T.gC ?_ hdb)⟩
  exact PySem.W.callWith_K0 I.kIn T.ox.kC (run_err (v := .non) T hr .not (show RelV .non Value.none from rfl) I h)
/-- e.value of an error -/
def tVal (K : Frag) (ta : TE) : TE := fun σ H Q => ta σ H fun x H1 => ∃ (C e : Addr) (v : V), x = .ref e ∧ ErrAt H1 C e v ∧ XfC K C ∧ PySem.W.findIn K (.ref C) "value" = some none ∧ Q v H1
theorem pe_val (ha : PE X a ta) (hb : attributeBase a "value" X.env (eval a X.env) = eval a X.env := by rfl) : PE X (.Attribute a "value" pos) (tVal X.K ta) := by
  refine ⟨fun pins s σ H Q I h => attr_of hb (thn (ha.run pins s σ H _ I h) fun u s1 hh => ?_)⟩
  obtain ⟨x, H1, I1, rx, C, e, v, rfl, ⟨d, e1, e2⟩, T, hno, q⟩ := hh
  obtain rfl : u = Value.ref e := rx
  obtain ⟨t1, ho⟩ := exo_at I1.hok e1
  obtain ⟨mA, hns, rel⟩ := exd_at I1.hok e2
  obtain ⟨od, hod, look⟩ := lookIn_ns hns
  have l : List.lookup ("value" : Str) [(("value" : Str), v)] = some v := by rw [lookup_put, if_pos rfl]
  obtain ⟨u, hu, ru⟩ := RelO.some_of (v := v) (o := mA "value") (by rw [← l]; exact rel "value")
  have J : PySem.W.InstAt s1.heap e { cls := .ref C, dict := some d, data := .fields #[.ref t1, .none, .none, .none, .bool false, .none] } C (some od) := ⟨ho, rfl, rfl, hod⟩
  exact PySem.HandSPX.exc_get I1.kIn J T.ga T.gg T.exC (PySem.W.findObj_own T.hdC hno rfl (by rw [look, hu])) (handed_of ru) ⟨v, H1, I1.tok _, ru, q⟩
end
end K1

namespace K1
open PySem PySem.Spec PyProof.Rows L2
open PySem.W (Frag)
/-- at e an error of the class at C, with fields of its own or without -/
def IsErr (H : Hp) (C e : Addr) : Prop := (∃ d fs, H e = some (exo e C (some d)) ∧ H d = some (exd d fs)) ∨ H e = some (ExO (.ref C) e)
theorem ErrAt.is {H : Hp} {C e : Addr} {v : V} (h : ErrAt H C e v) : IsErr H C e := by
  obtain ⟨d, h1, h2⟩ := h
  exact .inl ⟨d, _, h1, h2⟩
theorem IsErr.same {H H' : Hp} {C e : Addr} (k : Same H H') (h : IsErr H C e) : IsErr H' C e := by
  rcases h with ⟨d, fs, h1, h2⟩ | h
  · exact .inl ⟨d, fs, k _ _ h1, k _ _ h2⟩
  · exact .inr (k _ _ h)
theorem is_clsIn {K : Frag} {C : Addr} (h : PySem.W.hasDictIn K C = true) : (PySem.W.clsIn K C).isSome = true := by
  obtain ⟨cd, hc, _⟩ := PySem.W.any_some h
  rw [hc]
  rfl
section
variable {X : Cx} {C : Addr} {nm : Str} {p pos : Pos}
theorem call_isErr : CallR X (.builtin "isinstance") (fun xs H Q => ∃ (e C : Addr) (c : V) (cv : Value) (b : Bool), xs = [.ref e, c] ∧ IsErr H C e ∧ ExcC X.K C ∧ ClsV c cv ∧ PySem.W.kitOne X.K (.ref C) cv = some b ∧ Q (.bl b) H) := by
  intro pins s σ H xs us Q I r h
  obtain ⟨e, C, c, cv, b, rfl, he, T, hc, hk, q⟩ := h
  match us, r with
  | _, .cons rx (.cons rt .nil) =>
    cases rx
    have ec := hc.eq rt
    subst ec
    have fin : ∀ tk : Nat, EP X pins σ Q (.bool b) { s with toks := tk } := fun tk => ⟨.bl b, H, I.kept (t' := tk) fun _ _ z => z, rfl, q⟩
    rcases he with ⟨d, fs, h1, h2⟩ | h1
    · obtain ⟨t1, ho⟩ := exo_at I.hok h1
      obtain ⟨mA, hns, _⟩ := exd_at I.hok h2
      obtain ⟨od, hod, _⟩ := lookIn_ns hns
      have J : PySem.W.InstAt s.heap e { cls := .ref C, dict := some d, data := .fields #[.ref t1, .none, .none, .none, .bool false, .none] } C (some od) := ⟨ho, rfl, rfl, hod⟩
      exact PySem.W.kia_one (PySem.W.kitx_exc (is_clsIn T.hd) T.hg T.hk T.hs T.ha T.hn T.ht T.hm) I.kIn J hk (fun z => nomatch z) fun tk => fin tk
    · obtain ⟨⟨oe, vs, ho, hz, hv, _⟩, _, _⟩ := (show ObjOk X.prog X.w H s.heap e (ExO (.ref C) e) from I.hok e _ h1)
      have J : PySem.W.InstAt s.heap e oe C none := by
        obtain ⟨oc, od, oda, osl⟩ := oe
        obtain ⟨z1, z2⟩ := hz
        dsimp only at z1 z2 hv
        subst z1 z2 hv
        exact ⟨ho, rfl, rfl, trivial⟩
      exact PySem.W.kia_one (PySem.W.kitx_exc (is_clsIn T.hd) T.hg T.hk T.hs T.ha T.hn T.ht T.hm) I.kIn J hk (fun z => nomatch z) fun tk => fin tk
/-- C() of an own class of errors without own __init__ -/
theorem pe_bare {bmB : List Value} {B newId initId : String} (F : ExcBaseFacts B newId initId bmB) (q : PySem.W.excIn X.K C bmB newId = true) (gC : X.mg nm = some (.ref C)) (kC : PySem.W.keepIn X.K (.ref C) = true) (hg : Gl X nm := by rfl)
    (hdb : (nm == ("__debug__" : Str)) = false := by decide) : PE X (.Call (.Name nm p) [] [] pos) (fun σ H Q => ∀ a, H a = none → Q (.ref a) (upd H a (ExO (.ref C) a))) := by
  refine ⟨fun pins s σ H Q I h => wpAny_Call_Name_kw (ld_glob I hg gC ?_ hdb)⟩
  refine PySem.W.callWith_K0 I.kIn kC ?_
  show wpAny _ _ (call (.ref C) []) _ _ _
  obtain ⟨bm, N, nm', qn, bs, hdct, sn, sub, ab, col, dd, k0, k1, k2, k3, k5, mN, hC, hN, hni, T⟩ := exc_obj I.kIn q
  refine wpAny_call_exc_subT F T hC hN hni (fun h' a hm => ?_) (by show 0 ≤ sizeLine; exact Nat.zero_le _)
  have hn : H a = none := I.hok.gone hm.new
  obtain ⟨t, ht, _, _⟩ := hm.there
  exact ⟨.ref a, upd H a (ExO (.ref C) a), I.laidN hm.keeps hm.new hn (exO_ok ht ⟨rfl, rfl⟩ rfl rfl rfl (show 4 < 6 by decide)), rfl, h a hn⟩
/-- i ** j of great numbers -/
theorem op_powB : OpR X (binaryOp .Pow) (rI (fun i j => 0 ≤ j ∧ (Builtin.Int.intBits i : Int) * j ≤ 2 ^ 27) fun i j => .int (i ^ j.toNat)) :=
  opI fun i j t u s Q E c q => PyProof.Rows.pow_int c.1 c.2 q
end
end K1

namespace XN
open PySem PySem.Spec PyProof.Rows L2
open PySem.W (Frag)
/-! ### errors that are raised, caught and kept -/
/-- an error of a class, its own dict -/
def exk (a : Addr) (cls : Value) (d : Option Addr) : HO := .ext fun h => ∃ (oe : Obj) (vs : Array Value), h.get? a = some oe ∧ L2N.Zn cls d oe ∧ oe.data = .fields vs
theorem exk_ok {P : Program} {w : World} {H : Hp} {h : Heap} {a : Addr} {cls : Value} {d : Option Addr} {oe : Obj} {vs : Array Value} (e : h.get? a = some oe) (z : L2N.Zn cls d oe) (q : oe.data = .fields vs) : ObjOk P w H h a (exk a cls d) :=
  ⟨⟨oe, vs, e, z, q⟩, ⟨oe, e⟩, fun _ _ ⟨o', v', q', r'⟩ k => ⟨o', v', k o' q', r'⟩⟩
/-- the value of an error -/
def vdict (v : V) : HO := .xd [(("value" : Str), v)]
/-- at e an error of the class at C whose value is v -/
def KErr (H : Hp) (C e : Addr) (v : V) : Prop := ∃ d, H e = some (exk e (.ref C) (some d)) ∧ H d = some (vdict v)
theorem KErr.same {H H' : Hp} {C e : Addr} {v : V} (h : KErr H C e v) (k : Same H H') : KErr H' C e v := by
  obtain ⟨d, h1, h2⟩ := h
  exact ⟨d, k _ _ h1, k _ _ h2⟩
section
variable {X : Cx} {pins : List (Addr × Obj)} {σ : L2.St} {H : Hp} {s : Shared} {nm : Str} {C fI : Addr} {p pos : Pos} {a : Expr} {ta : TE}
/-- C(e), to be raised -/
theorem pmk_err (T : K1.ErrC X.K X.mg nm C fI) (rs : Raises X (.ref C)) (hr : Room 1 X.A) (ha : PE X a ta) (hg : Gl X nm := by rfl) (hdb : (nm == ("__debug__" : Str)) = false := by decide)
    (he : starEach (a :: []) X.env = (false, eval a X.env) :: starEach [] X.env := by rfl) : L2N.PMk X (.Call (.Name nm p) [a] [] pos) (fun σ H Q => ta σ H fun v H1 => ∀ d, H1 d = none → Q (.ref C) (some d) (upd H1 d (vdict v))) := by
  intro pins s σ H Q I h
  refine wpAny_Call_Name_kw (ld_glob I hg T.gC ?_ hdb)
  refine PySem.W.callWith_K (h₀ := X.base) I.ok.mod.kin T.ox.kC ?_ he (by rfl)
  have P := pa_cons ha pa_nil he
  refine thn (P.run pos pins s σ H (fun vs H1 => match vs with | [v] => ∀ d, H1 d = none → Q (.ref C) (some d) (upd H1 d (vdict v)) | _ => False) I h) fun us s1 hh => ?_
  obtain ⟨vs, H1, I1, r1, q1⟩ := hh
  match vs, us, r1, q1 with
  | [v], [u], .cons rv .nil, q1 =>
    refine ⟨I1.kIn, ?_⟩
    have lim := I1.nolimit
    obtain ⟨hp, g, dr, tk, os⟩ := s1
    refine wpAny_call (K1.err_made T (.place _) I1.kIn lim (by have := hr.dp; omega) fun h' tk' e d M => ?_)
    obtain ⟨t1, obj⟩ := M.obj
    have dns := M.ns
    obtain ⟨G, G1, G2⟩ := restrict h' fun b => decide (b ≠ e)
    have same : ∀ b, b ≠ e → G.get? b = h'.get? b := fun b hb => G1 b (decide_eq_true hb)
    have none_e : G.get? e = none := G2 e (by simp)
    have was : ∀ b o, hp.get? b = some o → G.get? b = some o := fun b o z => (same b (Nat.ne_of_lt (Nat.lt_of_lt_of_le (Heap.lt_size z) M.new))).trans (M.keep b o z)
    have it : ObjOk X.prog X.w (upd H1 d (vdict v)) G d (vdict v) := ⟨_, dns.at (fun o z => (same d M.dne).trans z), K1.one_rel rv⟩
    have J : Inv X pins σ (upd H1 d (vdict v)) ⟨G, g, dr, tk', os⟩ := I1.laid (t' := tk') was M.dbig it
    refine ⟨e, _, _, ⟨G, g, dr, tk', os⟩, _, .ref C, some d, rfl, J, fun b o z => ?_, none_e, obj, ⟨rfl, rfl, fun vs e => by cases e; rfl⟩, rfl, rfl, ?_, rfl, I1.bare, rs, q1 d (I1.hok.fresh M.dbig)⟩
    · by_cases hb : b = e
      · rw [hb] at z
        have z' : G.get? e = some o := z
        rw [none_e] at z'
        cases z'
      · exact (same b hb).symm.trans z
    · rw [upd_ne M.dne.symm]
      exact I1.hok.fresh M.new
/-- raise C(e) -/
theorem ps_raiseE {W : WX} {pos2 : Pos} (hc : X.calm = true) (T : K1.ErrC X.K X.mg nm C fI) (rs : Raises X (.ref C)) (hr : Room 1 X.A) (tk : L2N.Takes X W) (ha : PE X a ta) (hg : Gl X nm := by rfl) (hdb : (nm == ("__debug__" : Str)) = false := by decide)
    (he : starEach (a :: []) X.env = (false, eval a X.env) :: starEach [] X.env := by rfl) : PS X (.Raise (some (.Call (.Name nm p) [a] [] pos)) none pos2) (fun _ σ H => ta σ H fun v H1 => ∀ d, H1 d = none → W (.ref C) (some d) σ (upd H1 d (vdict v))) :=
  L2N.ps_raise hc tk (pmk_err T rs hr ha hg hdb he)
/-- e.value of a kept error -/
theorem pe_valK (ha : PE X a ta) (hb : attributeBase a "value" X.env (eval a X.env) = eval a X.env := by rfl) : PE X (.Attribute a "value" pos) (fun σ H Q => ta σ H fun x H1 => ∃ (C e : Addr) (v : V), x = .ref e ∧ KErr H1 C e v ∧ XfC X.K C ∧ PySem.W.findIn X.K (.ref C) "value" = some none ∧ Q v H1) := by
  refine ⟨fun pins s σ H Q I h => attr_of hb (thn (ha.run pins s σ H _ I h) fun u s1 hh => ?_)⟩
  obtain ⟨x, H1, I1, rx, C, e, v, rfl, ⟨d, e1, e2⟩, T, hno, q⟩ := hh
  obtain rfl : u = Value.ref e := rx
  obtain ⟨⟨oe, vs, ho, hz, hdt⟩, _, _⟩ := (show ObjOk X.prog X.w H1 s1.heap e (exk e (.ref C) (some d)) from I1.hok e _ e1)
  obtain ⟨mA, dns, rel⟩ := (show ObjOk X.prog X.w H1 s1.heap d (vdict v) from I1.hok d _ e2)
  obtain ⟨od, hod, look⟩ := lookIn_ns dns
  have l : List.lookup ("value" : Str) [(("value" : Str), v)] = some v := by rw [lookup_put, if_pos rfl]
  obtain ⟨u, hu, ru⟩ := RelO.some_of (v := v) (o := mA "value") (by rw [← l]; exact rel "value")
  have J : PySem.W.InstAt s1.heap e oe C (some od) := ⟨ho, hz.1, by unfold PySem.W.notCls; rw [hdt] <;> rfl, by rw [hz.2.1]; exact hod⟩
  exact PySem.HandSPX.exc_get I1.kIn J T.ga T.gg T.exC (PySem.W.findObj_own T.hdC hno rfl (by rw [look, hu])) (handed_of ru) ⟨v, H1, I1.tok _, ru, q⟩
/-- isinstance(e, c) of a kept error -/
theorem call_isK : CallR X (.builtin "isinstance") (fun xs H Q => ∃ (e C : Addr) (v c : V) (cv : Value) (b : Bool), xs = [.ref e, c] ∧ KErr H C e v ∧ ExcC X.K C ∧ ClsV c cv ∧ PySem.W.kitOne X.K (.ref C) cv = some b ∧ Q (.bl b) H) := by
  intro pins s σ H xs us Q I r h
  obtain ⟨e, C, v, c, cv, b, rfl, ⟨d, h1, h2⟩, T, hc, hk, q⟩ := h
  match us, r with
  | _, .cons rx (.cons rt .nil) =>
    cases rx
    have ec := hc.eq rt
    subst ec
    have fin : ∀ tk : Nat, EP X pins σ Q (.bool b) { s with toks := tk } := fun tk => ⟨.bl b, H, I.kept (t' := tk) fun _ _ z => z, rfl, q⟩
    obtain ⟨⟨oe, vs, ho, hz, hdt⟩, _, _⟩ := (show ObjOk X.prog X.w H s.heap e (exk e (.ref C) (some d)) from I.hok e _ h1)
    obtain ⟨mA, dns, _⟩ := (show ObjOk X.prog X.w H s.heap d (vdict v) from I.hok d _ h2)
    obtain ⟨od, hod, _⟩ := lookIn_ns dns
    have J : PySem.W.InstAt s.heap e oe C (some od) := ⟨ho, hz.1, by unfold PySem.W.notCls; rw [hdt] <;> rfl, by rw [hz.2.1]; exact hod⟩
    exact PySem.W.kia_one (PySem.W.kitx_exc (K1.is_clsIn T.hd) T.hg T.hk T.hs T.ha T.hn T.ht T.hm) I.kIn J hk (fun z => nomatch z) fun tk => fin tk
end
end XN

namespace XN
open PySem PySem.Spec PyProof.Rows L2
open PySem.W (Frag)
/-! ### try .. except X as n (some clauses): the caught error is tracked, and stays -/
abbrev Suite := Addr → Value → Option Addr → TS
/-- what the clauses wish of an error of the body; slot i is the name's -/
def wKeep (K : Frag) (Wout : WX) (D : Ends) : List (Value × Nat × Suite) → WX
  | [] => Wout
  | (c, i, ts) :: more => fun cls d σ H => ∃ b, PySem.W.exmOne K cls c = some b ∧ (b = false → wKeep K Wout D more cls d σ H) ∧
      (b = true → ∀ e, H e = none → ts e cls d { nx := fun σ1 H1 => D.nx (σ1.set i none) H1, rt := D.rt, bk := fun σ1 H1 => D.bk (σ1.set i none) H1, ct := fun σ1 H1 => D.ct (σ1.set i none) H1 } (σ.set i (some (.ref e))) (upd H e (exk e cls d)))
/-- the clauses and their readings -/
inductive Clauses (X : Cx) : List ExceptHandler → List (Value × Nat × Suite) → Prop
  | none : Clauses X [] []
  | one {x n : Str} {c : Value} {i : Nat} {ts : Suite} {b₀ : Stmt} {suite : List Stmt} {np cpos : Pos} {more : List ExceptHandler} {l : List (Value × Nat × Suite)} (cn : Names X x c) (ix : X.N[i]? = some n) (loc : X.env.kindOf n = some .local)
      (su : ∀ (e : Addr) (cls : Value) (d : Option Addr) (pn : List (Addr × Obj)), PSs (X.suite e pn) (b₀ :: suite) (ts e cls d)) (m : Clauses X more l) : Clauses X (.ExceptHandler (some (.Name x np)) (some n) (b₀ :: suite) cpos :: more) ((c, i, ts) :: l)
section
variable {X : Cx} {pins : List (Addr × Obj)} {σ : L2.St} {H : Hp} {s : Shared}
/-- a caught error joins what is tracked -/
theorem join {e : Addr} {cls : Value} {d : Option Addr} {oe : Obj} {vs : Array Value} (I : Inv X pins σ H s) (he : s.heap.get? e = some oe) (hz : L2N.Zn cls d oe) (hd : oe.data = .fields vs) (ne : H e = none) (nL : e ≠ X.env.locals) (old : X.s_0.heap.get? e = none) (np : ∀ q ∈ X.pn ++ pins, q.1 ≠ e) :
    Inv (X.suite e (X.pn ++ pins)) [] σ (upd H e (exk e cls d)) s := by
  have stays : ∀ {b : Addr} {o : HO}, H b = some o → (upd H e (exk e cls d)) b = some o := fun {b o} z => by
    rw [upd_ne (ne_of_none z ne)]
    exact z
  have empty : ∀ {b : Addr}, b ≠ e → H b = none → (upd H e (exk e cls d)) b = none := fun {b} hb z => by
    rw [upd_ne hb]
    exact z
  have U := I.base
  refine ⟨I.ok.suite _ _, I.os, I.bare, { U with free := fun b o q n x => empty (fun z => by rw [z, old] at q; cases q) (U.free b o q n x), tups := fun b xs q => stays (U.tups b xs q), frzs := fun b o u q => stays (U.frzs b o u q), tbls := fun b ps q => ?_ }, I.loc, I.cell, empty nL.symm I.free, fun y c q => empty (fun z => ?_) (I.freeC y c q), fun q hq => ?_, fun b o q => ?_, I.len⟩
  · obtain ⟨more, z⟩ := U.tbls b ps q
    exact ⟨more, stays z⟩
  · obtain ⟨v, o, ho, hc⟩ := I.cell y c q
    rw [z, he] at ho
    cases ho
    rw [hd] at hc
    cases hc
  · have hq' : q ∈ X.pn ++ pins := by rw [List.append_nil] at hq; exact hq
    obtain ⟨z1, z2, z3⟩ := I.pin q hq'
    exact ⟨z1, empty (np q hq') z2, z3⟩
  · by_cases hb : b = e
    · subst hb
      rw [upd_same] at q
      injection q with q
      rw [← q]
      exact exk_ok he hz hd
    · rw [upd_ne hb] at q
      exact (I.hok b o q).stay (fun _ _ _ z => z) (fun c z => stays z) fun c xs z => stays z
theorem part {e : Addr} {pn' : List (Addr × Obj)} (ok : X.Ok) (I : Inv (X.suite e (X.pn ++ pins)) pn' σ H s) : Inv X pins σ H s :=
  ⟨ok, I.os, I.bare, I.base, I.loc, I.cell, I.free, I.freeC, fun q hq => I.pin q (List.mem_append_left _ hq), I.hok, I.len⟩
/-- an error that has been caught, over the state before it -/
structure Got (X : Cx) (pins : List (Addr × Obj)) (σ : L2.St) (H : Hp) (e : Addr) (cls : Value) (d : Option Addr) (s' : Shared) : Prop where
  run : ∃ (B : Heap) (sI : Shared), Inv X pins σ H sI ∧ (∀ b o, sI.heap.get? b = some o → b ∉ frs X.stack → B.get? b = some o) ∧ sI.heap.UpToSlots s'.heap ∧ PySem.HandSPX.FlyingZ B (X.env :: X.outer) e (L2N.Zn cls d) s'.heap ∧ s'.os = sI.os ∧ AllBare s'.gens
  free : H e = none
theorem Got.facts {e : Addr} {cls : Value} {d : Option Addr} {s' : Shared} (G : Got X pins σ H e cls d s') (hs : X.stack = X.env :: X.outer) (hf : X.env.frame = some X.env.locals) (hx : X.ex = []) :
    Inv X pins σ H s' ∧ (∃ oe vs, s'.heap.get? e = some oe ∧ L2N.Zn cls d oe ∧ oe.data = .fields vs) ∧ e ≠ X.env.locals ∧ e ∉ X.fs ∧ X.s_0.heap.get? e = none ∧ ∀ q ∈ X.pn ++ pins, q.1 ≠ e := by
  obtain ⟨B, sI, J, nb, up, fl, os, ag⟩ := G.run
  obtain ⟨oe, vs, he, hz, hd⟩ := fl.there
  have nF : e ∉ frs (X.env :: X.outer) := fun hm => by
    obtain ⟨_, o2, z2, no⟩ := fl.2.2.1.mem hm
    rw [he] at z2
    cases z2
    exact no _ hd
  have inI : sI.heap.get? e = none := by
    cases z : sI.heap.get? e with
    | none => rfl
    | some o =>
      have z2 := nb e o z (by rw [hs]; exact nF)
      rw [fl.2.1] at z2
      cases z2
  refine ⟨J.landed nb fl.1 up os ag, ⟨oe, vs, he, hz, hd⟩, fun z => nF (List.mem_filterMap.mpr ⟨X.env, List.mem_cons_self, by rw [hf, z]⟩), fun hm => ?_, ?_, fun q hq z => ?_⟩
  · obtain ⟨v, h1, h2⟩ := List.mem_filterMap.mp hm
    exact nF (List.mem_filterMap.mpr ⟨v, List.mem_cons_of_mem _ h1, h2⟩)
  · cases z : X.s_0.heap.get? e with
    | none => rfl
    | some o =>
      obtain ⟨o2, z2⟩ := J.base.there e o z (by rw [hx]; simp)
      rw [inI] at z2
      cases z2
  · obtain ⟨z1, _⟩ := J.pin q hq
    rw [z, inI] at z1
    cases z1
theorem Got.land {e : Addr} {cls : Value} {d : Option Addr} {s' : Shared} {h' : Heap} (G : Got X pins σ H e cls d s') (fly : ∀ B, PySem.HandSPX.FlyingZ B (X.env :: X.outer) e (L2N.Zn cls d) s'.heap → PySem.HandSPX.FlyingZ B (X.env :: X.outer) e (L2N.Zn cls d) h') (u : s'.heap.UpToSlots h') : Got X pins σ H e cls d { s' with heap := h' } := by
  obtain ⟨B, sI, J, nb, up, fl, os, ag⟩ := G.run
  exact ⟨⟨B, sI, J, nb, up.trans u, fly B fl, os, ag⟩, G.free⟩
end
section
variable {X : Cx} {pins : List (Addr × Obj)} {Wout : WX} {D : Ends}
theorem clauses_run (hs : X.stack = X.env :: X.outer) (hf : X.env.frame = some X.env.locals) (hx : X.ex = []) (hN : X.N.Nodup) (ok : X.Ok) (tk : L2N.Takes X Wout) {e : Addr} {cls : Value} {d : Option Addr} {σ : L2.St} {H : Hp} {s' : Shared} (G : Got X pins σ H e cls d s') :
    ∀ {hds : List ExceptHandler} {l : List (Value × Nat × Suite)}, Clauses X hds l → wKeep X.K Wout D l cls d σ H → wpAny (model X.prog X.w) X.A (handleBy (.ref e) X.env hds) (SP X pins D) X.xe s' := by
  intro hds l C
  induction C with
  | none =>
    intro w
    obtain ⟨B, sI, J, nb, up, fl, os, ag⟩ := G.run
    refine wpAny_handleBy_nil ?_
    obtain ⟨_, _, _, oe, vs, T, oT, _, he, _, hd, h1, _⟩ := id fl
    have last : wpAny (model X.prog X.w) X.A (setFlight (.ref e) X.env.frame) (fun _ s4 => wpAny (model X.prog X.w) X.A (throw (.ref e) : Sem Flow) (SP X pins D) X.xe s4) X.xe s' := by
      rw [hf]
      exact HandSPX.setFlight_upZ fl fun h4 held u4 => wpAny_throw (tk _ _ ⟨e, B, sI, pins, σ, H, cls, d, rfl, J, nb, up.trans u4, .inr (.inr (by rw [hs]; exact held)), G.free, os, ag, w⟩)
    unfold PySem.passOn
    refine wpAny_bind (wpAny_field he hd h1 ?_)
    rw [if_neg (show ¬ ((Value.ref T == Value.none) = true) by simp)]
    first
      | exact wpAny_bind (wpAny_pure (wpAny_bind last))
      | exact wpAny_bind last
  | @one x n c i ts b₀ suite np cpos more l cn ix loc su m ih =>
    rintro ⟨b, hb, no, yes⟩
    obtain ⟨J, ⟨oe, vs, he, hz, hd⟩, nL, nF, s0, npn⟩ := G.facts hs hf hx
    have S := join J he hz hd G.free nL s0 npn
    refine wpAny_handleBy_cons (codeAny_handlers_test ?_) (by intro z; cases z)
    have kind : PySem.W.Looks (model X.prog X.w) s'.heap (typeOf (.ref e)) cls := fun A' Q' E' s2 k q => wpAny_typeOf_ref (k _ _ he) (by rw [hz.1]; exact q)
    have match_ := PySem.W.exm_one (M := model X.prog X.w) J.kIn kind hb
    have named : ∀ {Q E : Value → Shared → Prop}, Q c s' → wpAny (model X.prog X.w) (X.A.mark (some (.ref e))) (eval (.Name x np) X.env) Q E s' := fun {Q E} q => by
      obtain ⟨g1, g2, z | ⟨z1, z2, z3⟩⟩ := cn
      · exact ld_glob (X := X.suite e (X.pn ++ pins)) S g1 z q g2
      · exact ld_blt (X := X.suite e (X.pn ++ pins)) S g1 z1 z2 q z3 g2
    refine named (match_.here ?_)
    match b, no, yes with
    | false, no, _ => exact ih (no rfl)
    | true, _, yes =>
      obtain ⟨B, sI, J0, nb, up, fl, os, ag⟩ := G.run
      refine codeAny_handlers_suite_as (HandSPX.lands_againZ fl fun h4 fl4 up4 => ?_)
      have G4 : Got X pins σ H e cls d { s' with heap := h4 } := ⟨⟨B, sI, J0, nb, up.trans up4, fl4, os, ag⟩, G.free⟩
      obtain ⟨J4, ⟨oe4, vs4, he4, hz4, hd4⟩, _⟩ := G4.facts hs hf hx
      refine store_ok (X := X.suite e (X.pn ++ pins)) (v := .ref e) (join J4 he4 hz4 hd4 G.free nL s0 npn) hN ix (.inl loc) rfl (fun s5 S5 => ?_) (.inr loc)
      refine wpAny_mono ((su e cls d (X.pn ++ pins)).run [] s5 _ _ _ S5 (yes rfl e G.free)) (fun f s6 hsp => ?_) fun _ _ z => z.elim
      have out : ∀ {σ6 : L2.St} {H6 : Hp} {Q : Shared → Prop} {pn6 : List (Addr × Obj)}, Inv (X.suite e (X.pn ++ pins)) pn6 σ6 H6 s6 → (∀ s7, Inv X pins (σ6.set i none) H6 s7 → Q s7) → wpAny (model X.prog X.w) X.A (do bindName X.env n .none; unbindBehindTheSuite X.env n cpos) (fun _ s7 => Q s7) X.xe s6 :=
        fun S6 q => gone_ok (part ok S6) hN ix loc q
      match f, hsp with
      | .next, ⟨σ6, H6, S6, q6⟩ => exact out S6 fun s7 J7 => ⟨_, _, J7, q6⟩
      | .brk, ⟨σ6, H6, S6, q6⟩ => exact out S6 fun s7 J7 => ⟨_, _, J7, q6⟩
      | .cont, ⟨σ6, H6, S6, q6⟩ => exact out S6 fun s7 J7 => ⟨_, _, J7, q6⟩
      | .ret u, ⟨v6, σ6, H6, S6, r6, q6⟩ => exact out S6 fun s7 J7 => ⟨_, _, _, J7, r6, q6⟩
theorem ps_tryK {body : List Stmt} {hd : ExceptHandler} {hds : List ExceptHandler} {l : List (Value × Nat × Suite)} {pos : Pos} {tb : WX → TS} (hs : X.stack = X.env :: X.outer) (hf : X.env.frame = some X.env.locals) (hx : X.ex = []) (hN : X.N.Nodup) (tk : L2N.Takes X Wout)
    (hb : ∀ (W : WX) (pn : List (Addr × Obj)) (xe : Value → Shared → Prop), L2N.Takes (X.tr pn xe) W → PassesOwn (model X.prog X.w) X.A X.env xe → PSs (X.tr pn xe) body (tb W)) (hc : Clauses X (hd :: hds) l) : PS X (.Try body (hd :: hds) [] [] pos) (fun D σ H => tb (wKeep X.K Wout D l) D σ H) := by
  refine ⟨fun pins s σ H D I h => ?_⟩
  have ok := I.ok
  have fr : X.A.frames = some (X.env :: X.outer) := by rw [ok.frames, hs]
  refine wpAny_Try_except (wpAny_mono ((hb (wKeep X.K Wout D l) (X.pn ++ pins) _ (fun u s' xx => ?_) PassesOwn.looking).run [] s σ H D (I.toTry _) h) (fun f s1 hsp => ?_) fun _ _ z => z)
  · obtain ⟨e, B, sI, pins', σ', H', cls, d, rfl, J', nb, up, sky, ne, os, ag, w⟩ := xx
    have J : Inv X pins σ' H' sI := J'.ofTry ok
    refine L2N.Sky.land L2N.Zn.steady fr hf (by rw [← hs]; exact sky) fun h3 fl3 up3 => ?_
    exact clauses_run hs hf hx hN ok tk (s' := { s' with heap := h3 }) ⟨⟨B, sI, J, nb, up.trans up3, fl3, os, ag⟩, ne⟩ hc w
  · match f, hsp with
    | .next, ⟨σ', H', J', q⟩ => exact wpAny_execs_nil ⟨σ', H', J'.ofTry ok, q⟩
    | .brk, ⟨σ', H', J', q⟩ => exact ⟨σ', H', J'.ofTry ok, q⟩
    | .cont, ⟨σ', H', J', q⟩ => exact ⟨σ', H', J'.ofTry ok, q⟩
    | .ret u, ⟨v, σ', H', J', r, q⟩ => exact ⟨v, σ', H', J'.ofTry ok, r, q⟩
end
end XN

namespace XN
open PySem PySem.Spec PyProof.Rows L2 KT
open PySem.W (Frag)
section
variable {X : Cx} {CX : CXT} {k : Nat} {f : Addr} {fd : FuncData} {ps ks : List Str} {sp : Sp} {E : L2.St → XK} {g : List Value → List Value → List Value} {gV : List V → List V → List V} {σ : L2.St}
theorem run_fnkS {pins : List (Addr × Obj)} {H : Hp} {s : Shared} {Q : VK} {us ws : List Value} {vs zs : List V} (F : FnOk X.prog X.w X.K X.mg X.base CX k f fd ps sp) (hr : Room k X.A) (hb : KBinds X.K fd ps ks g gV) (hx : PassesAt CX X σ (E σ))
    (I : Inv X pins σ H s) (r : Vals vs us) (rz : Vals zs ws) (h : sp (gV vs zs) H Q (E σ)) : wpAny (model X.prog X.w) X.A (call (.ref f) us (ks.zip ws)) (EP X pins σ Q) X.xe s := by
  have r2 := hb.rel r rz
  have hl : (g us ws).length = ps.length := by rw [← r2.length]; exact F.len _ _ _ _ h
  refine wpAny_call (codeAny_mono (F.run X.A X.stack s H ⟨us, ks.zip ws⟩ (g us ws) (gV vs zs) Q (E σ) hr I.env0 (hb.to s us ws I.kIn hl) r2 h) fun r s' hq => ?_)
  cases r with
  | error e => exact hx pins H s e s' I hq
  | ok fl =>
    cases fl with
    | ret u => exact I.after hq
    | next => exact False.elim hq
    | brk => exact False.elim hq
    | cont => exact False.elim hq
/-- d[k](x = e, ..): one of the defs f j -/
theorem pe_callDK {ι : Type} {kj : ι → Nat} {fj : ι → Addr} {fdj : ι → FuncData} {psj : ι → List Str} {spj : ι → Sp} {gj : ι → List Value → List Value → List Value} {gVj : ι → List V → List V → List V} {d i : Expr} {dp pos : Pos} {tf : TE} {tk : TA} {kws : List Keyword}
    (F : ∀ j, FnOk X.prog X.w X.K X.mg X.base CX (kj j) (fj j) (fdj j) (psj j) (spj j)) (hr : ∀ j, Room (kj j) X.A) (hk : ∀ j, PySem.W.keepIn X.K (.ref (fj j)) = true) (hb : ∀ j, KBinds X.K (fdj j) (psj j) ks (gj j) (gVj j)) (hx : ∀ σ, PassesAt CX X σ (E σ))
    (hf : PE X (.Subscript d i dp) tf) (hkw : PK X kws tk) (hall : (backToKw pos (keywordEach kws X.env)).all (·.1.isSome) = true := by rfl) (hks : (backToKw pos (keywordEach kws X.env)).filterMap (·.1) = ks := by rfl)
    (hpl : ((backTo pos (starEach [] X.env)).any (·.1) || (backToKw pos (keywordEach kws X.env)).any (·.1.isNone)) = false := by rfl) :
    PE X (.Call (.Subscript d i dp) [] kws pos) (fun σ H Q => tf σ H fun v H1 => ∃ j, v = .ref (fj j) ∧ tk σ H1 fun zs H2 => spj j (gVj j [] zs) H2 Q (E σ)) := by
  refine ⟨fun pins s σ H Q I h => ?_⟩
  have arm : eval (.Call (.Subscript d i dp) [] kws pos) X.env = (do callWith pos (← eval (.Subscript d i dp) X.env) [] (backTo pos (starEach [] X.env)) (backToKw pos (keywordEach kws X.env))) := rfl
  rw [arm]
  refine wpAny_bind (thn (hf.run pins s σ H _ I h) fun u s1 ⟨v, H1, I1, r1, j, ev, q1⟩ => ?_)
  subst ev
  obtain rfl : u = Value.ref (fj j) := r1
  refine PySem.W.callWith_KW0 (h₀ := X.base) I1.ok.mod.kin (hk j) hall (thn (hkw.run pos pins s1 σ H1 _ I1 q1) fun ws s2 ⟨zs, H2, I2, rz, q2⟩ => ⟨I2.kIn, ?_⟩) hpl
  rw [hks]
  exact run_fnkS (us := []) (F j) (hr j) (hb j) (hx σ) I2 .nil rz q2
/-- f(x = e, ..), errors going on -/
theorem pe_callKS {x : Str} {p pos : Pos} {tk : TA} {kws : List Keyword} (F : FnOk X.prog X.w X.K X.mg X.base CX k f fd ps sp) (hr : Room k X.A) (hg : Gl X x) (hm : X.mg x = some (.ref f)) (hk : PySem.W.keepIn X.K (.ref f) = true) (hb : KBinds X.K fd ps ks g gV) (hx : ∀ σ, PassesAt CX X σ (E σ))
    (hkw : PK X kws tk) (hall : (backToKw pos (keywordEach kws X.env)).all (·.1.isSome) = true := by rfl) (hks : (backToKw pos (keywordEach kws X.env)).filterMap (·.1) = ks := by rfl)
    (hdb : (x == ("__debug__" : Str)) = false := by decide) (hpl : ((backTo pos (starEach [] X.env)).any (·.1) || (backToKw pos (keywordEach kws X.env)).any (·.1.isNone)) = false := by rfl) :
    PE X (.Call (.Name x p) [] kws pos) (fun σ H Q => tk σ H fun zs H2 => sp (gV [] zs) H2 Q (E σ)) := by
  refine ⟨fun pins s σ H Q I h => ?_⟩
  refine wpAny_Call_Name_kw (ld_glob I hg hm ?_ hdb)
  refine PySem.W.callWith_KW0 (h₀ := X.base) I.ok.mod.kin hk hall (thn (hkw.run pos pins s σ H _ I h) fun ws s2 ⟨zs, H2, I2, rz, q2⟩ => ⟨I2.kIn, ?_⟩) hpl
  rw [hks]
  exact run_fnkS (us := []) F hr hb (hx σ) I2 .nil rz q2
end
end XN

namespace XN
open PySem PySem.Spec PyProof.Rows L2 KT HotX
open PySem.W (Frag)
/-! ### a, b = x, y within an except suite -/
section
variable {prog : Program} {w : World} {A : Around} {E : Value → Shared → Prop} {s : Shared}
theorem tuple_end_hot {it t x1 : Addr} {i : Nat} {items} {Q : Option Value → Shared → Prop} (hot : HotAt A x1 s.heap)
    (hit : IsTupIter s.heap it t i) (ht : IsTup s.heap t items) (hx : items[i]? = none) (nx : x1 ≠ it)
    (hQ : ∀ h', Heap.ExtBut it s.heap h' → Q none { s with heap := h' }) : wpAny (model prog w) A (pyNext (.ref it)) Q E s := by
  obtain ⟨o, ho, hc, hd⟩ := id hit
  obtain ⟨ol, hol, _, nl, hdl⟩ := ht
  obtain ⟨hh, o1, vs1, h1, d1, c1⟩ := hot
  unfold pyNext
  refine wpAny_bind (wpAny_attempt (wpAny_callSpecial?_slot (name := Str.ofString "__next__") hit.typeIs slot_tupleiter_next
    (wpAny_call_entry slot_tupleiter_next hit.typeIs entry_tupleiter_next ?_ (args_tupleiter_next _))))
  show wpAny _ _ (field (.ref it) 0 >>= _) _ _ s
  refine wpAny_bind (wpAny_field ho hd (x := .ref t) rfl ?_)
  show wpAny _ _ (if (Value.ref t == Value.none) = true then _ else _) _ _ s
  rw [if_neg (show ¬ ((Value.ref t == Value.none) = true) from Bool.false_ne_true)]
  show wpAny _ _ (field (.ref it) 1 >>= _) _ _ s
  refine wpAny_bind (wpAny_field ho hd (x := .int i 0) rfl ?_)
  show wpAny _ _ (seqItems? (.ref t) >>= _) _ _ s
  refine wpAny_bind (wpAny_seqItems hol hdl ?_)
  simp only [Int.toNat_natCast, hx]
  refine wpAny_bind (wpAny_rule (wpAny_bind (wpAny_setField ho hd (by simp) ?_)))
  show wpAny _ _ (newExc (.type "StopIteration") [] >>= _) _ _ _
  refine wpAny_bind ?_
  simp only [newExc, newTuple]
  refine wpAny_bind (wpAny_newObj_type ?_ (by size_fits))
  refine wpAny_bind (m := firstArgMember _ _) (wpAny_of_eq (a := Value.none) (by first | rfl | (simp only [firstArgMember]; rfl)) ?_)
  refine wpAny_newObj_type ?_ (by size_fits)
  have h1' := (Heap.get?_update_other s.heap (Obj.mapFields (·.setIfInBounds 0 Value.none)) nx.symm).trans h1
  refine raiseNew_hot ⟨hh, o1, vs1, Heap.get?_push_of_some _ (Heap.get?_push_of_some _ h1'), d1, c1⟩ (Nat.ne_of_lt (Heap.lt_size (Heap.get?_push_of_some _ h1'))) (Heap.get?_push_size _ rfl) rfl (by first | (simp; done) | (simp; omega) | (simp only [Array.size_append]; simp; omega)) ?_
  refine wpAny_bind (wpAny_isInstance (T := "StopIteration") (b := true) ⟨_, Heap.get?_update_self _ (Heap.get?_push_size _ rfl) rfl, rfl⟩ isSubtype_stop ?_)
  refine wpAny_pure (hQ _ fun b o hb e => ?_)
  have e' := (Heap.get?_update_other s.heap (Obj.mapFields (·.setIfInBounds 0 Value.none)) (Ne.symm hb)).trans e
  rw [Heap.get?_update_other _ _ (Nat.ne_of_gt (Heap.lt_size (Heap.get?_push_of_some _ e')))]
  exact Heap.get?_push_of_some _ (Heap.get?_push_of_some _ e')
theorem unpack_tuple_hot {t x1 : Addr} {items : Array Value} {Q : List Value → Shared → Prop} (hot : HotAt A x1 s.heap) (ht : IsTup s.heap t items)
    (hQ : ∀ h', Heap.ExtBut s.heap.objs.size s.heap h' → Q items.toList { s with heap := h' }) : wpAny (model prog w) A (unpackItems (.ref t) items.size none) Q E s := by
  have hlt : t ≠ s.heap.objs.size := by obtain ⟨o, ho, _⟩ := ht; exact Nat.ne_of_lt (Heap.lt_size ho)
  obtain ⟨hh, o1, vs1, h1, d1, c1⟩ := hot
  have hl1 : x1 ≠ s.heap.objs.size := Nat.ne_of_lt (Heap.lt_size h1)
  unfold unpackItems
  refine wpAny_bind ?_
  · unfold notIterableAtAll
    refine wpAny_bind (wpAny_specialOf ht.typeIs slot_tuple_iter.lookup ?_)
    refine wpAny_pure ?_
    simp only [Bool.false_eq_true, if_false]
    refine wpAny_bind (wpAny_holding (iter_tuple ht ?_))
    refine wpAny_bind (wpAny_holding (draw_tuple hlt items.size 0 _ _ ⟨_, Heap.get?_push_size _ rfl, rfl, rfl⟩ (ht.push _) (by omega) fun h₁ hit₁ hs₁ => ?_))
    have hall : List.take items.size (List.drop 0 items.toList) = items.toList := by
      rw [List.drop_zero]; exact List.take_of_length_le (by simp)
    rw [hall]
    rw [if_neg (by simp)]
    have ht₁ : IsTup h₁ t items := (ht.push _).extBut hs₁.extBut hlt
    refine wpAny_bind (wpAny_holding (tuple_end_hot ⟨hh, o1, vs1, hs₁.extBut _ _ hl1 (Heap.get?_push_of_some _ h1), d1, c1⟩ hit₁ ht₁ (by simp) hl1 fun h₂ he₂ => ?_))
    simp only [Option.isSome_none, Bool.false_eq_true, if_false]
    refine wpAny_pure (hQ h₂ fun b o hb e => he₂ b o hb (hs₁.extBut b o hb (Heap.get?_push_of_some _ e)))
end
section
variable {X : Cx} {pos : Pos}
def tParS (e : Addr) (i j : Nat) (ta : TA) : TS := fun D σ H => ta σ H fun vs H1 => ∃ v w, vs = [v, w] ∧ (∃ cls d, H1 e = some (exk e cls d)) ∧ D.nx ((σ.set i (some v)).set j (some w)) H1
theorem ps_parS {i j : Nat} {x y : Str} {a b : Expr} {ta : TA} {px py pt : Pos} {kt k2 pt2} {e : Addr} (hh : X.A.handled = some (.ref e)) (hN : X.N.Nodup) (hi : X.N[i]? = some x) (hj : X.N[j]? = some y) (hij : i ≠ j)
    (hx : X.env.scope.names.lookup x = some .local) (hy : X.env.scope.names.lookup y = some .local) (ha : PA X [a, b] ta)
    (hw : swappedStores [.Tuple [.Name x px, .Name y py] kt pt] (.Tuple [a, b] k2 pt2) X.env = pure (some [x, y]))
    (hs : swapsWithSole [.Tuple [.Name x px, .Name y py] kt pt] (.Tuple [a, b] k2 pt2) pos.line X.env = pure false := by rfl) :
    PS X (.Assign [.Tuple [.Name x px, .Name y py] kt pt] (.Tuple [a, b] k2 pt2) pos) (tParS e i j ta) := by
  refine ⟨fun pins s σ H D I h => ?_⟩
  rw [exec_Assign_arm]
  refine wpAny_bind (wpAny_standAt ?_)
  rw [hs]
  refine wpAny_bind (wpAny_pure ?_)
  rw [if_neg (by decide)]
  refine wpAny_bind (Tuple_ (thn (ha.run _ pins s σ H _ I h) fun us s1 ⟨vs, H1, I1, r1, q1⟩ => ?_))
  obtain ⟨v, w, e1, ⟨cls, d, he⟩, q1⟩ := q1
  subst e1
  obtain ⟨u1, u2, rfl, rv, rw'⟩ : ∃ u1 u2, us = [u1, u2] ∧ RelV v u1 ∧ RelV w u2 := by
    cases r1 with
    | cons p q =>
      cases q with
      | cons p' q' =>
        cases q'
        exact ⟨_, _, rfl, p, p'⟩
  refine wpAny_newObj_type ?_ (by show 2 ≤ sizeLine; decide)
  have I2 : Inv X pins σ H1 { s1 with heap := s1.heap.push { cls := .type "tuple", data := .seq [u1, u2].toArray } } := I1.kept (t' := s1.toks) fun b o e => Heap.get?_push_of_some _ e
  rw [hw]
  refine wpAny_bind (wpAny_pure ?_)
  show wpAny (model X.prog X.w) X.A (do rule "assign.swapped-stores"; let items ← unpackItems (.ref s1.heap.objs.size) 2 none; assignInOrder [fun v => bindName X.env y v, fun v => bindName X.env x v] items.reverse; pure Flow.next) _ _ _
  obtain ⟨⟨oe, vs, ho, hz, hdt⟩, _, _⟩ := (show ObjOk X.prog X.w H1 s1.heap e (exk e cls d) from I1.hok e _ he)
  have hot : HotAt X.A e (s1.heap.push { cls := .type "tuple", data := .seq [u1, u2].toArray }) := ⟨hh, oe, vs, Heap.get?_push_of_some _ ho, hdt, hz.2.2 vs hdt⟩
  refine wpAny_bind (wpAny_rule (wpAny_bind (unpack_tuple_hot (items := #[u1, u2]) hot (IsTup.new s1.heap _) fun h' hx' => ?_)))
  have I3 := I2.kept (h' := h') (t' := s1.toks) fun b o e => hx' b o (Nat.ne_of_lt (Heap.lt_size e)) e
  show wpAny _ _ (assignInOrder [fun v => bindName X.env y v, fun v => bindName X.env x v] [u2, u1] >>= fun _ => pure Flow.next) _ _ _
  refine wpAny_bind (assignInOrder_cons (wpAny_bindName (store_ok I3 hN hj (.inl hy) rw' (fun s2 I4 => ?_) (.inr hy))))
  refine assignInOrder_cons (wpAny_bindName (store_ok I4 hN hi (.inl hx) rv (fun s3 I5 => assignInOrder_nil (wpAny_pure ?_)) (.inr hx)))
  rw [List.set_comm _ _ (Ne.symm hij)] at I5
  exact ⟨_, H1, I5, q1⟩
end
end XN
namespace L2
open PySem PySem.Spec PyProof.Rows
section
variable {P : Program} {w : World} {K : PySem.W.Frag} {mg : Str → Option Value} {base : Heap}
/-- as Fun.okX, the errors' context being None -/
theorem Fun.okXN {x qual : Str} {st : Stmt} {f : Addr} {fd : FuncData} {N ps : List Str} {k : Nat} {sp : Sp} (F : Fun K x qual st f fd) (S : FnScope N ps (defScope st)) (len : ∀ vs H Q E, sp vs H Q E → vs.length = ps.length)
    (hbody : ∀ (cdv : Value) (A : Around) (outer : List Env) (s : Shared) (H : Hp) (vs : List V) (Q : VK) (E : XK), Room k (A.deeper (envOfC qual (defScope st) s.heap.objs.size f cdv)) → sp vs H Q E →
      ∃ t, PSs (cxOf (L2N.CX P w) P w K mg base N qual (defScope st) f cdv A outer s H E) (defBody st) t ∧ t { nx := fun _ H' => Q .non H', rt := Q } (start N vs) H) : FnOk P w K mg base (L2N.CX P w) (k + 1) f fd ps sp := by
  obtain ⟨oc, od, kV, doc, pm, an, cdv, ct, osl, rfl, lk, hcd⟩ := F.ex
  exact fn_of lk hcd S len fun A outer s H vs Q E hr hsp => hbody cdv A outer s H vs Q E hr hsp
end
end L2
namespace XN
open PySem PySem.Spec PyProof.Rows L2
theorem takes_none {X : Cx} : L2N.Takes X (fun _ _ _ _ => False) := fun _ _ ⟨_, _, _, _, _, _, _, _, _, _, _, _, _, _, _, _, w⟩ => w.elim
end XN

namespace V2
open PySem PySem.Spec PyProof.Rows L2 NdefX LamX KT
open PySem.W (Frag)
theorem ofText_bd {x : Str} (hd : (rdD x).dep ≤ 60) (hz : (rdD x).size ≤ 60000) : (ofText x).dep ≤ 60 ∧ (ofText x).size ≤ 60000 := by
  unfold ofText
  split
  · split
    · exact ⟨hd, hz⟩
    · exact ⟨by simp [D.dep], by simp [D.size]⟩
  · exact ⟨by simp [D.dep], by simp [D.size]⟩
/-- the texts that join rows -/
structure Gtx (mg : Str → Option Value) : Prop where
  b : ∃ t, mg "_BETWEEN" = some (.str (", " : Str) t)
  l : ∃ t, mg "_LINE_END" = some (.str ("\n" : Str) t)
/-- the error of the readers -/
structure PEr (K : Frag) (mg : Str → Option Value) (C fI : Addr) : Prop where
  e : K1.ErrC K mg "InvalidPaper" C fI
section
variable {P : Program} {w : World} {K : Frag} {mg : Str → Option Value} {base : Heap} {T : List (Addr × Str)} {C fI : Addr}
def spKindText (T : List (Addr × Str)) : Sp := fun vs H Q _ => ∃ v t, vs = [v] ∧ TyAt H v t ∧ t.d.dep ≤ 60 ∧ t.d.size ≤ 60000 ∧ Tabs T H ∧ ∀ H', ExtN H H' → Tabs T H' → Q (.str t.text) H'
theorem ok_kindText {f fc fx : Addr} {fd fdc fdx : FuncData} (T0 : Top K mg "kind_text" sKindText pKindText f fd) (TC : Top K mg "check_kind" sCheckKind pCheckKind fc fdc) (GC : FnOk P w K mg base CX0 3 fc fdc pCheckKind spCheckKindT) (TX : Top K mg "_text_of" sTextOf pTextOf fx fdx) (GX : FnOk P w K mg base CX0 6 fx fdx pTextOf (spTextOf T)) : FnOk P w K mg base CX0 7 f fd pKindText (spKindText T) := by
  refine T0.F.ok scKindText (fun vs H Q E h => ?_) (fun cdv A outer s H vs Q E hr h => ?_)
  · obtain ⟨_, _, rfl, _⟩ := h
    rfl
  · obtain ⟨v, t, rfl, ht, hd, hz, hT, k⟩ := h
    have hr6 := hr
    have hr3 : Room 3 _ := hr.mono (by decide)
    refine ⟨_, (pss_cons (ps_expr (pe_call GC hr3 rfl TC.g TC.F.kp TC.b .nil pass0 (pa_cons (pv 0) pa_nil)))
      (pss_one (ps_ret (pe_call GX hr6 rfl TX.g TX.F.kp TX.b .nil pass0 (pa_cons (pv 0) pa_nil))))), ?_⟩
    exact ⟨_, rfl, v, t, rfl, ht, hd, by omega, fun H1 s1 => ⟨_, rfl, v, t, rfl, ht.mono (TK.of_same s1), by omega, hT.ext s1, fun H2 e2 T2 => k H2 ((extn_same s1).trans e2) T2⟩⟩
def spKindTold (T : List (Addr × Str)) : Sp := fun vs H Q _ => ∃ x : Str, vs = [.str x] ∧ RdOk x ∧ Tabs T H ∧ ∀ v' H', ExtN H H' → Tabs T H' → DAt H' v' (ofText x) → (ofText x).dep ≤ 60 → (ofText x).size ≤ 60000 → Q v' H'
theorem ok_kindTold {f fp fi fx : Addr} {fd fdp fdi fdx : FuncData} (T0 : Top K mg "kind_told" sKindTold pKindTold f fd) (TP : Top K mg "_put_together" sPutTogether pPutTogether fp fdp) (GP : FnOk P w K mg base CX0 1 fp fdp pPutTogether spPutTogether) (TI : Top K mg "is_kind" sIsKind pIsKind fi fdi) (GI : FnOk P w K mg base CX0 2 fi fdi pIsKind spIsKindD) (TX : Top K mg "_text_of" sTextOf pTextOf fx fdx) (GX : FnOk P w K mg base CX0 6 fx fdx pTextOf (spTextOf T)) : FnOk P w K mg base CX0 7 f fd pKindTold (spKindTold T) := by
  refine T0.F.ok scKindTold (fun vs H Q E h => ?_) (fun cdv A outer s H vs Q E hr h => ?_)
  · obtain ⟨_, rfl, _⟩ := h
    rfl
  · obtain ⟨x, rfl, hx, hT, k⟩ := h
    have hr6 := hr
    have hr1 : Room 1 _ := hr.mono (by decide)
    have hr2 : Room 2 _ := hr.mono (by decide)
    refine ⟨_, (pss_cons (ps_set (i := 1) scKindTold.nd rfl (Or.inl rfl) (pe_call GP hr1 rfl TP.g TP.F.kp TP.b .nil pass0 (pa_cons (pv 0) pa_nil)))
      (pss_one (ps_ret (pe_ifExp (PW.pt (pw_and (pt_val (pe_call GI hr2 rfl TI.g TI.F.kp TI.b .nil pass0 (pa_cons (pv 1) pa_nil))) (pw_and1 (pt_cmpR op_eq (pe_call GX hr6 rfl TX.g TX.F.kp TX.b .nil pass0 (pa_cons (pv 1) pa_nil)) (pv 0) (nomark _))))) (pv 1) pe_non)))), ?_⟩
    refine ⟨_, rfl, x, rfl, hx, fun v1 H1 s1 h1 d1 z1 => gN ?_⟩
    dsimp only
    obtain ⟨b1, b2⟩ := ofText_bd d1 z1
    refine ⟨_, rfl, v1, rdD x, rfl, h1, d1, by omega, fun H2 s2 => ⟨_, rfl, ?_⟩⟩
    have s12 := s1.trans s2
    cases e : (rdD x).ty with
    | none =>
      have ek : (rdD x).isKd = false := by unfold D.isKd; rw [e]; rfl
      have eo : ofText x = .o := by unfold ofText; rw [e]
      rw [ek]
      exact iteF (k .non H2 (extn_same s12) (hT.ext s12) (by rw [eo]; exact .o) b1 b2)
    | some t =>
      have ek : (rdD x).isKd = true := by unfold D.isKd; rw [e]; rfl
      have ed : t.d = rdD x := D.ty_d e
      rw [ek]
      refine iteT ⟨_, rfl, v1, t, rfl, (h1.ty e).mono (TK.of_same s2), by rw [ed]; omega, hT.ext s12, fun H3 e3 T3 => ⟨_, rfl, rfl, ?_⟩⟩
      have eH : ExtN H H3 := (extn_same s12).trans e3
      by_cases c : t.text = x
      · have eo : ofText x = rdD x := by
          unfold ofText
          rw [e]
          show (if t.text = x then rdD x else .o) = _
          rw [if_pos c]
        refine ⟨true, congrArg V.bl (decide_eq_true (by rw [c])), iteT ⟨_, rfl, ?_⟩⟩
        exact k v1 H3 eH T3 (by rw [eo]; exact h1.mono ((TK.of_same s2).trans (extn_tk e3))) b1 b2
      · have eo : ofText x = .o := by
          unfold ofText
          rw [e]
          show (if t.text = x then rdD x else .o) = _
          rw [if_neg c]
        refine ⟨false, congrArg V.bl (decide_eq_false fun z => c (by injection z)), iteF ?_⟩
        exact k .non H3 eH T3 (by rw [eo]; exact .o) b1 b2
def spRowText (sep : Str) (T : List (Addr × Str)) : Sp := fun vs H Q _ => ∃ L ts, vs = [.ref L] ∧ RowAt H L ts ∧ ts ≠ [] ∧ ts.length ≤ 100 ∧ (∀ t ∈ ts, t.d.dep ≤ 60 ∧ t.d.size ≤ 1000) ∧ Tabs T H ∧ ∀ H', ExtN H H' → Tabs T H' → Q (.str (Txt.join sep (ts.map Ty.text))) H'
theorem sum_le {l : List Nat} {b : Nat} (h : ∀ x ∈ l, x ≤ b) : l.sum ≤ l.length * b := by
  induction l with
  | nil => simp
  | cons x l ih =>
    have := h x List.mem_cons_self
    have := ih fun y hy => h y (List.mem_cons_of_mem _ hy)
    simp only [List.sum_cons, List.length_cons, Nat.succ_mul]
    omega
theorem tys_wok {H : Hp} {us : List V} {ts : List Ty} (h : Tys H us ts) : ∀ t ∈ ts, t.wok := by
  induction h with
  | nil => intro t h; cases h
  | cons a _ ih =>
    intro t ht
    rcases List.mem_cons.mp ht with rfl | ht
    · exact a.wok
    · exact ih t ht
theorem ok_rowText {f fc fx : Addr} {fd fdc fdx : FuncData} (T0 : Top K mg "row_text" sRowText pRowText f fd) (TC : Top K mg "check_row" sCheckRow pCheckRow fc fdc) (GC : FnOk P w K mg base CX0 5 fc fdc pCheckRow spCheckRow) (TX : Top K mg "_text_of" sTextOf pTextOf fx fdx) (GX : FnOk P w K mg base CX0 6 fx fdx pTextOf (spTextOf T)) (GB : Gtx mg) : FnOk P w K mg base CX0 7 f fd pRowText (spRowText (", " : Str) T) := by
  obtain ⟨tb, gB⟩ := GB.b
  refine T0.F.ok scRowText (fun vs H Q E h => ?_) (fun cdv A outer s H vs Q E hr h => ?_)
  · obtain ⟨_, _, rfl, _⟩ := h
    rfl
  · obtain ⟨L, ts, rfl, hR, hne, hl, hb, hT, k⟩ := h
    have hr6 := hr
    have hr5 : Room 5 _ := hr.mono (by decide)
    refine ⟨_, (pss_cons (ps_expr (pe_call GC hr5 rfl TC.g TC.F.kp TC.b .nil pass0 (pa_cons (pv 0) pa_nil)))
      (pss_one (ps_ret (pe_join (pe_glob (v := .str (", " : Str)) rfl gB ⟨tb, rfl⟩) (pe_lc (own := [("kind", 1)]) (g := (gName 1)) (tt := tYes) rfl scRowText.nd (pi_list (pv 0)) (blkOk_by (N := nRowText) (sc := defScope sRowText) (by decide +kernel)) (fun _ _ _ _ _ => pg_name (i := 1) scRowText.nd rfl (Or.inl rfl)) (fun _ _ _ _ _ => pts_nil) (fun _ _ _ _ _ => (pe_call GX hr6 rfl TX.g TX.F.kp TX.b .nil pass0 (pa_cons (pv 1) pa_nil)))))))), ?_⟩
    refine ⟨_, rfl, L, ts, rfl, hR, ⟨by omega, fun t ht => ⟨(hb t ht).1, by have := (hb t ht).2; omega⟩⟩, hne, fun H1 s1 => ⟨⟨_, rfl⟩, ?_⟩⟩
    obtain ⟨us, eL, hU⟩ := hR.same s1
    have lU := hU.length
    have wk := tys_wok hU
    refine ⟨_, rfl, L, rfl, ⟨_, SqL.of eL⟩, fun D hD => ?_⟩
    refine lc_list (K := K) (xs := us) (fun i H' => ExtN H1 H' ∧ Tabs T H' ∧ H' D = some (.lst ((ts.take i).map fun t => V.str t.text))) ⟨extn_same (same_upd hD), (hT.ext s1).ext (same_upd hD), by rw [upd_same]; rfl⟩ (fun i H' _ q => SqL.of (extn_lst q.1 eL)) ?_ ?_
    · rintro i x H' hx ⟨eH, T2, eD⟩
      obtain ⟨t, ht, hxt⟩ := hU.at_ hx
      have mt := List.mem_of_getElem? ht
      refine ⟨rfl, x, rfl, x, t, rfl, hxt.mono (extn_tk eH), by have := (hb t mt).2; omega, T2, fun H3 e3 T3 => ⟨_, extn_lst e3 eD, by rw [List.length_map, List.length_take, sizeLine_eq]; omega, ?_⟩⟩
      exact ⟨extn_over (eH.trans e3) hD, tabs_lst T3 (extn_lst e3 eD), by rw [upd_same, List.take_add_one, ht, List.map_append]; rfl⟩
    · rintro H' ⟨eH, T2, eD⟩
      rw [lU, List.take_length] at eD
      refine ⟨_, _, ts.map Ty.text, rfl, rfl, .inl (SqL.of (by rw [eD, List.map_map]; rfl)), ?_, k H' ((extn_same s1).trans eH) T2⟩
      have q := sum_le (l := (ts.map Ty.text).map (·.length)) (b := 8000) fun x hx => by
        obtain ⟨y, hy, rfl⟩ := List.mem_map.mp hx
        obtain ⟨t, ht, rfl⟩ := List.mem_map.mp hy
        have := text_len t (wk t ht)
        have := (hb t ht).2
        omega
      have l2 : ((", " : Str)).length = 2 := by decide +kernel
      rw [List.length_map, List.length_map] at q
      rw [l2, List.length_map]
      omega
theorem ok_kindsText {f fc fx : Addr} {fd fdc fdx : FuncData} (T0 : Top K mg "kinds_text" sKindsText pKindsText f fd) (TC : Top K mg "check_row" sCheckRow pCheckRow fc fdc) (GC : FnOk P w K mg base CX0 5 fc fdc pCheckRow spCheckRow) (TX : Top K mg "_text_of" sTextOf pTextOf fx fdx) (GX : FnOk P w K mg base CX0 6 fx fdx pTextOf (spTextOf T)) (GB : Gtx mg) : FnOk P w K mg base CX0 7 f fd pKindsText (spRowText ("\n" : Str) T) := by
  obtain ⟨tb, gB⟩ := GB.l
  refine T0.F.ok scKindsText (fun vs H Q E h => ?_) (fun cdv A outer s H vs Q E hr h => ?_)
  · obtain ⟨_, _, rfl, _⟩ := h
    rfl
  · obtain ⟨L, ts, rfl, hR, hne, hl, hb, hT, k⟩ := h
    have hr6 := hr
    have hr5 : Room 5 _ := hr.mono (by decide)
    refine ⟨_, (pss_cons (ps_expr (pe_call GC hr5 rfl TC.g TC.F.kp TC.b .nil pass0 (pa_cons (pv 0) pa_nil)))
      (pss_one (ps_ret (pe_join (pe_glob (v := .str ("\n" : Str)) rfl gB ⟨tb, rfl⟩) (pe_lc (own := [("kind", 1)]) (g := (gName 1)) (tt := tYes) rfl scKindsText.nd (pi_list (pv 0)) (blkOk_by (N := nKindsText) (sc := defScope sKindsText) (by decide +kernel)) (fun _ _ _ _ _ => pg_name (i := 1) scKindsText.nd rfl (Or.inl rfl)) (fun _ _ _ _ _ => pts_nil) (fun _ _ _ _ _ => (pe_call GX hr6 rfl TX.g TX.F.kp TX.b .nil pass0 (pa_cons (pv 1) pa_nil)))))))), ?_⟩
    refine ⟨_, rfl, L, ts, rfl, hR, ⟨by omega, fun t ht => ⟨(hb t ht).1, by have := (hb t ht).2; omega⟩⟩, hne, fun H1 s1 => ⟨⟨_, rfl⟩, ?_⟩⟩
    obtain ⟨us, eL, hU⟩ := hR.same s1
    have lU := hU.length
    have wk := tys_wok hU
    refine ⟨_, rfl, L, rfl, ⟨_, SqL.of eL⟩, fun D hD => ?_⟩
    refine lc_list (K := K) (xs := us) (fun i H' => ExtN H1 H' ∧ Tabs T H' ∧ H' D = some (.lst ((ts.take i).map fun t => V.str t.text))) ⟨extn_same (same_upd hD), (hT.ext s1).ext (same_upd hD), by rw [upd_same]; rfl⟩ (fun i H' _ q => SqL.of (extn_lst q.1 eL)) ?_ ?_
    · rintro i x H' hx ⟨eH, T2, eD⟩
      obtain ⟨t, ht, hxt⟩ := hU.at_ hx
      have mt := List.mem_of_getElem? ht
      refine ⟨rfl, x, rfl, x, t, rfl, hxt.mono (extn_tk eH), by have := (hb t mt).2; omega, T2, fun H3 e3 T3 => ⟨_, extn_lst e3 eD, by rw [List.length_map, List.length_take, sizeLine_eq]; omega, ?_⟩⟩
      exact ⟨extn_over (eH.trans e3) hD, tabs_lst T3 (extn_lst e3 eD), by rw [upd_same, List.take_add_one, ht, List.map_append]; rfl⟩
    · rintro H' ⟨eH, T2, eD⟩
      rw [lU, List.take_length] at eD
      refine ⟨_, _, ts.map Ty.text, rfl, rfl, .inl (SqL.of (by rw [eD, List.map_map]; rfl)), ?_, k H' ((extn_same s1).trans eH) T2⟩
      have q := sum_le (l := (ts.map Ty.text).map (·.length)) (b := 8000) fun x hx => by
        obtain ⟨y, hy, rfl⟩ := List.mem_map.mp hx
        obtain ⟨t, ht, rfl⟩ := List.mem_map.mp hy
        have := text_len t (wk t ht)
        have := (hb t ht).2
        omega
      have l2 : (("\n" : Str)).length = 1 := by decide +kernel
      rw [List.length_map, List.length_map] at q
      rw [l2, List.length_map]
      omega
end
end V2

namespace V2
open PySem PySem.Spec PyProof.Rows L2 NdefX LamX KT
open PySem.W (Frag)
/-- what is told of a row's text -/
def ofTexts (sep x : Str) : List D := (Txt.split x sep).map ofText
def isNoD : D → Bool
  | .o => true
  | _ => false
theorem any_no (ds : List D) : ((pyAll ds).any fun z => PyData.eqv z .none) = ds.any isNoD := by
  induction ds with
  | nil => rfl
  | cons d r ih =>
    simp only [pyAll, List.any_cons, ih]
    congr 1
    cases d <;> simp [D.py, PyData.eqv, isNoD]
theorem depAll_le {ds : List D} {n : Nat} (h : ∀ d ∈ ds, d.dep ≤ n) : depAll ds ≤ n := by
  induction ds with
  | nil => exact Nat.zero_le _
  | cons d r ih =>
    have := h d List.mem_cons_self
    have := ih fun u hu => h u (List.mem_cons_of_mem _ hu)
    simp only [depAll]
    omega
/-- the parts of a text that may be read may be read -/
theorem count_part {x y p : Str} (h : p ∈ Txt.split x y) (c : Nat) : p.cps.toList.count c ≤ x.cps.toList.count c := by
  have q := jn_is y (Txt.split x y)
  rw [StrLaws.join_split] at q
  rw [q]
  have key : ∀ (l : List (List Nat)) (a : List Nat), a ∈ l → a.count c ≤ (jn y.cps.toList l).count c := by
    intro l
    induction l with
    | nil => intro a h; cases h
    | cons b r ih =>
      intro a ha
      cases r with
      | nil => rw [List.mem_singleton.mp ha]; exact Nat.le_refl _
      | cons d r =>
        show _ ≤ (b ++ y.cps.toList ++ jn y.cps.toList (d :: r)).count c
        rw [List.count_append, List.count_append]
        rcases List.mem_cons.mp ha with rfl | ha
        · omega
        · have := ih a ha
          omega
  exact key _ _ (List.mem_map.mpr ⟨p, h, rfl⟩)
theorem split_whole {x y p : Str} {c : Nat} (hy : c ∈ y.cps.toList) (hx : c ∉ x.cps.toList) (hp : p ∈ Txt.split x y) : p = x := by
  have q := jn_is y (Txt.split x y)
  rw [StrLaws.join_split] at q
  cases hs : Txt.split x y with
  | nil => rw [hs] at hp; cases hp
  | cons a r =>
    cases r with
    | nil =>
      rw [hs] at hp q
      rw [List.mem_singleton.mp hp]
      exact (str_ext q).symm
    | cons b r =>
      rw [hs] at q
      refine absurd ?_ hx
      rw [q]
      show c ∈ a.cps.toList ++ y.cps.toList ++ _
      simp [hy]
theorem rdok_part {x y p : Str} (h : RdOk x) (hy : 44 ∈ y.cps.toList ∨ 10 ∈ y.cps.toList) (hp : p ∈ Txt.split x y) : RdOk p := by
  rcases h.2.2 with h3 | ⟨h3, h4, h5⟩
  · exact ⟨fun c hc => h.1 c (part_mem hp c hc), Nat.le_trans (part_short hp) h.2.1, .inl (Nat.le_trans (count_part hp 41) h3)⟩
  · rcases hy with hy | hy
    · rw [split_whole hy h3 hp]; exact h
    · rw [split_whole hy h4 hp]; exact h
section
variable {P : Program} {w : World} {K : Frag} {mg : Str → Option Value} {base : Heap} {T : List (Addr × Str)} {C fI : Addr}
/-- a reader's promise: the list, or the error with the very text -/
def spReads (sep : Option Str) (C : Addr) (T : List (Addr × Str)) (x : Str) (H : Hp) (Q : VK) (E : XK) : Prop := match sep with
  | some sp => (∀ L us H', ExtN H H' → Tabs T H' → H' L = some (.lst us) → DsAt H' us (ofTexts sp x) → (ofTexts sp x).any isNoD = false → H L = none → Q (.ref L) H') ∧ ((ofTexts sp x).any isNoD = true → ∀ d H', ExtN H H' → Tabs T H' → H' d = none → E (.ref C) (some d) (upd H' d (XN.vdict (.str x))))
  | none => (∀ v H', ExtN H H' → Tabs T H' → DAt H' v (ofText x) → isNoD (ofText x) = false → Q v H') ∧ (isNoD (ofText x) = true → ∀ d H', ExtN H H' → Tabs T H' → H' d = none → E (.ref C) (some d) (upd H' d (XN.vdict (.str x))))
def spKindsTold (C : Addr) (T : List (Addr × Str)) : Sp := fun vs H Q E => ∃ x sp : Str, vs = [.str x, .str sp] ∧ RdOk x ∧ (sp.length == 0) = false ∧ (44 ∈ sp.cps.toList ∨ 10 ∈ sp.cps.toList) ∧ Tabs T H ∧ spReads (some sp) C T x H Q E
theorem split_le_len {x y : Str} : (Txt.split x y).length ≤ x.length + 2 := split_le x y
theorem ok_kindsTold {f fk : Addr} {fd fdk : FuncData} (T0 : Top K mg "_kinds_told" sKindsTold pKindsTold f fd) (TK_ : Top K mg "kind_told" sKindTold pKindTold fk fdk) (GK : FnOk P w K mg base CX0 7 fk fdk pKindTold (spKindTold T)) (B : Blt mg) (PE_ : K1.ErrC K mg "InvalidPaper" C fI) : FnOk P w K mg base (L2N.CX P w) 8 f fd pKindsTold (spKindsTold C T) := by
  refine T0.F.okXN scKindsTold (fun vs H Q E h => ?_) (fun cdv A outer s H vs Q E hr h => ?_)
  · obtain ⟨_, _, rfl, _⟩ := h
    rfl
  · obtain ⟨x, sp, rfl, hx, hsp, hsg, hT, k1, k2⟩ := h
    have hr7 := hr
    have hr1 : Room 1 _ := hr.mono (by decide)
    have rs : Raises (cxOf (L2N.CX P w) P w K mg base nKindsTold "_kinds_told" (defScope sKindsTold) f cdv A outer s H E) (.ref C) := raises_own PE_.ox.exC PE_.ox.tyC
    refine ⟨_, pss_cons (ps_if (pt_not (pt_val (pe_callB call_isi (by rfl) B.isi (by decide +kernel) (pa_cons (pv 0) (pa_cons (pe_bltn (v := .ty "str") (by rfl) B.str_ (by decide +kernel) rfl) pa_nil))))) pss_never pss_nil)
      (pss_cons (ps_setLc (i := 2) (own := [("part", 3)]) (g := (gName 3)) (tt := tYes) rfl scKindsTold.nd rfl rfl (by rfl) (pi_list (pe_split (pv 0) (pv 1))) (blkOk_by (N := nKindsTold) (sc := defScope sKindsTold) (by decide +kernel)) (fun _ _ _ _ _ => pg_name (i := 3) scKindsTold.nd rfl (Or.inl rfl)) (fun _ _ _ _ _ => pts_nil) (fun _ _ _ _ _ => (pe_call GK hr7 rfl TK_.g TK_.F.kp TK_.b .nil pass0 (pa_cons (pv 3) pa_nil))))
      (pss_cons (ps_if (pt_cmpR (op_inD (hu65 hr)) pe_non (pv 2) (by rfl)) (pss_one (XN.ps_raiseE rfl PE_ rs hr1 (L2N.takes_of rfl rfl rfl rfl) (pv 0))) pss_nil) (pss_one (ps_ret (pv 2))))), ?_⟩
    have lsp := split_le_len (x := x) (y := sp)
    have hl := hx.2.1
    refine ⟨_, rfl, _, _, _, _, true, rfl, .ty "str", .base (.str x), kit_ty (by decide +kernel), true, rfl, iteF ?_⟩
    refine ⟨_, rfl, ⟨_, rfl⟩, _, rfl, x, sp, rfl, rfl, hsp, by rw [sizeLine_eq]; omega, fun p hp => ⟨p, rfl, ⟨_, SqL.of upd_same⟩, fun D hD => ?_⟩⟩
    have s1 := same_upd (o := .lst ((Txt.split x sp).map V.str)) hp
    refine lc_list (K := K) (xs := (Txt.split x sp).map V.str) (fun i H' => ExtN (upd H p (.lst ((Txt.split x sp).map V.str))) H' ∧ Tabs T H' ∧ ∃ us, H' D = some (.lst us) ∧ DsAt H' us (((Txt.split x sp).take i).map ofText) ∧ ∀ u ∈ ((Txt.split x sp).take i).map ofText, u.dep ≤ 60)
      ⟨extn_same (same_upd hD), (hT.ext s1).ext (same_upd hD), [], upd_same, .nil, fun u hu => by cases hu⟩ (fun i H' _ q => SqL.of (extn_lst q.1 upd_same)) ?_ ?_
    · rintro i y H' hy ⟨eH, T2, us, eD, hU, hdp⟩
      rw [List.getElem?_map] at hy
      obtain ⟨z, hzi, rfl⟩ := Option.map_eq_some_iff.mp hy
      obtain ⟨hi, _⟩ := List.getElem?_eq_some_iff.mp hzi
      have mz := List.mem_of_getElem? hzi
      have lU := hU.length
      rw [List.length_map, List.length_take] at lU
      refine ⟨rfl, _, rfl, z, rfl, rdok_part hx hsg mz, T2, fun v H3 e3 T3 hv hd hz => ⟨_, extn_lst e3 eD, by rw [sizeLine_eq]; omega, ?_⟩⟩
      have tkw : TK H3 (upd H3 D (.lst (us ++ [v]))) := TK.upd_lst (extn_lst e3 eD)
      refine ⟨extn_over (eH.trans e3) hD, tabs_lst T3 (extn_lst e3 eD), us ++ [v], upd_same, ?_, ?_⟩
      · rw [List.take_add_one, hzi, List.map_append]
        exact ((hU.mono (extn_tk e3)).mono tkw).append (.cons (hv.mono tkw) .nil)
      · rw [List.take_add_one, hzi, List.map_append]
        intro u hu
        rcases List.mem_append.mp hu with hu | hu
        · exact hdp u hu
        · rw [List.mem_singleton.mp hu]
          exact hd
    · rintro H' ⟨eH, T2, us, eD, hU, hdp⟩
      rw [List.length_map, List.take_length] at hU hdp
      dsimp only
      have eA : ExtN H H' := (extn_same s1).trans eH
      obtain ⟨p1, p2, p3⟩ := DsAt.py (K := K) hU
      have sh : SeqAt.shaped (.list (pyAll ((Txt.split x sp).map ofText))) = true := by
        unfold SeqAt.shaped
        have q := depAll_le hdp
        simp only [PyData.canLay0, PyData.depth, p2, p3, Bool.true_and, decide_eq_true_eq]
        omega
      refine ⟨_, rfl, .none, _, .non, .lst (SqL.of eD) p1, by decide +kernel, sh, ?_⟩
      rw [any_no]
      have fr : H D = none := s1.free hD
      cases ha : ((Txt.split x sp).map ofText).any isNoD with
      | true => exact ⟨_, rfl, iteT ⟨_, rfl, fun d hd => k2 ha d H' eA T2 hd⟩⟩
      | false => exact ⟨_, rfl, iteF ⟨_, rfl, k1 D us H' eA T2 eD hU ha fr⟩⟩
def spRead (sep : Option Str) (C : Addr) (T : List (Addr × Str)) : Sp := fun vs H Q E => ∃ x : Str, vs = [.str x] ∧ RdOk x ∧ Tabs T H ∧ spReads sep C T x H Q E
theorem ok_readKind {f fk : Addr} {fd fdk : FuncData} (T0 : Top K mg "read_kind" sReadKind pReadKind f fd) (TK_ : Top K mg "kind_told" sKindTold pKindTold fk fdk) (GK : FnOk P w K mg base CX0 7 fk fdk pKindTold (spKindTold T)) (B : Blt mg) (PE_ : K1.ErrC K mg "InvalidPaper" C fI) : FnOk P w K mg base (L2N.CX P w) 8 f fd pReadKind (spRead none C T) := by
  refine T0.F.okXN scReadKind (fun vs H Q E h => ?_) (fun cdv A outer s H vs Q E hr h => ?_)
  · obtain ⟨_, rfl, _⟩ := h
    rfl
  · obtain ⟨x, rfl, hx, hT, k1, k2⟩ := h
    have hr7 := hr
    have hr1 : Room 1 _ := hr.mono (by decide)
    have rs : Raises (cxOf (L2N.CX P w) P w K mg base nReadKind "read_kind" (defScope sReadKind) f cdv A outer s H E) (.ref C) := raises_own PE_.ox.exC PE_.ox.tyC
    refine ⟨_, pss_cons (ps_set (i := 1) scReadKind.nd rfl (Or.inl rfl) (pe_ifExp (pt_val (pe_callB call_isi (by rfl) B.isi (by decide +kernel) (pa_cons (pv 0) (pa_cons (pe_bltn (v := .ty "str") (by rfl) B.str_ (by decide +kernel) rfl) pa_nil)))) (pe_call GK hr7 rfl TK_.g TK_.F.kp TK_.b .nil pass0 (pa_cons (pv 0) pa_nil)) pe_non))
      (pss_cons (ps_if (pt_cmpR op_isN (pv 1) pe_non (nomark _)) (pss_one (XN.ps_raiseE rfl PE_ rs hr1 (L2N.takes_of rfl rfl rfl rfl) (pv 0))) pss_nil) (pss_one (ps_ret (pv 1)))), ?_⟩
    refine ⟨_, rfl, _, _, _, _, true, rfl, .ty "str", .base (.str x), kit_ty (by decide +kernel), true, rfl, iteT ⟨_, rfl, x, rfl, hx, hT, fun v H1 e1 T1 hv hd hz => gN ?_⟩⟩
    dsimp only
    refine ⟨_, rfl, rfl, ?_⟩
    have e0 : decide (v = V.non) = isNoD (ofText x) := by
      generalize ofText x = d at hv
      cases hv with
      | o => exact decide_eq_true rfl
      | s _ => exact decide_eq_false fun z => by cases z
      | i _ => exact decide_eq_false fun z => by cases z
      | t _ _ => exact decide_eq_false fun z => by cases z
    refine ⟨_, congrArg V.bl e0, ?_⟩
    cases ha : isNoD (ofText x) with
    | true => exact iteT ⟨_, rfl, fun d hd => k2 ha d H1 e1 T1 hd⟩
    | false => exact iteF ⟨_, rfl, k1 v H1 e1 T1 hv ha⟩
theorem ok_readRow {f fk : Addr} {fd fdk : FuncData} (T0 : Top K mg "read_row" sReadRow pReadRow f fd) (TS : Top K mg "_kinds_told" sKindsTold pKindsTold fk fdk) (GS : FnOk P w K mg base (L2N.CX P w) 8 fk fdk pKindsTold (spKindsTold C T)) (GB : Gtx mg) : FnOk P w K mg base (L2N.CX P w) 9 f fd pReadRow (spRead (some (", " : Str)) C T) := by
  obtain ⟨tb, gB⟩ := GB.b
  refine T0.F.okXN scReadRow (fun vs H Q E h => ?_) (fun cdv A outer s H vs Q E hr h => ?_)
  · obtain ⟨_, rfl, _⟩ := h
    rfl
  · obtain ⟨x, rfl, hx, hT, k⟩ := h
    refine ⟨_, pss_one (ps_ret (pe_callS GS hr rfl TS.g TS.F.kp TS.b (fun σ => L2N.passAt (L2N.takes_of rfl rfl rfl rfl) σ) (pa_cons (pv 0) (pa_cons (pe_glob (v := .str (", " : Str)) rfl gB ⟨tb, rfl⟩) pa_nil)))), ?_⟩
    exact ⟨_, rfl, x, _, rfl, hx, by decide +kernel, by decide +kernel, hT, k⟩
theorem ok_readKinds {f fk : Addr} {fd fdk : FuncData} (T0 : Top K mg "read_kinds" sReadKinds pReadKinds f fd) (TS : Top K mg "_kinds_told" sKindsTold pKindsTold fk fdk) (GS : FnOk P w K mg base (L2N.CX P w) 8 fk fdk pKindsTold (spKindsTold C T)) (GB : Gtx mg) : FnOk P w K mg base (L2N.CX P w) 9 f fd pReadKinds (spRead (some ("\n" : Str)) C T) := by
  obtain ⟨tb, gB⟩ := GB.l
  refine T0.F.okXN scReadKinds (fun vs H Q E h => ?_) (fun cdv A outer s H vs Q E hr h => ?_)
  · obtain ⟨_, rfl, _⟩ := h
    rfl
  · obtain ⟨x, rfl, hx, hT, k⟩ := h
    refine ⟨_, pss_one (ps_ret (pe_callS GS hr rfl TS.g TS.F.kp TS.b (fun σ => L2N.passAt (L2N.takes_of rfl rfl rfl rfl) σ) (pa_cons (pv 0) (pa_cons (pe_glob (v := .str ("\n" : Str)) rfl gB ⟨tb, rfl⟩) pa_nil)))), ?_⟩
    exact ⟨_, rfl, x, _, rfl, hx, by decide +kernel, by decide +kernel, hT, k⟩
end
end V2

namespace XO
open PySem PySem.Spec PySem.Builtin PyProof.Rows L2 SeqAt MeetsSeq
open PySem.Sem (wp)
/-! ### a text beside a dict, whatever is in it -/
theorem str_eq_declines_dict (b : Str) (u : Tok) (l : Addr) (c : Value) (es : Array DictEntry) (ep : _) (dd : Option Addr) (sl : Array (Option Value)) :
    Meets (Builtin.«str.__eq__» ⟨[.str b u, .ref l], []⟩) (fun _ R s => s.heap.get? l = some { cls := c, dict := dd, data := .dict es ep, slots := sl } ∧ R (.ok (.ret .notImplemented)) s) :=
  .of_wp fun prog w A R s h => by obtain ⟨hp, g, d, tk, os⟩ := s; obtain ⟨hl, h⟩ := h; wp_walk using wpAny_loadPart' hl, wpAny_load hl; exact ⟨_, rfl, h⟩
theorem dict_eq_declines_str (l : Addr) (es : Array DictEntry) (ep : _) (dd : Option Addr) (sl : Array (Option Value)) (b : Str) (u : Tok) :
    Meets (Builtin.«dict.__eq__» ⟨[.ref l, .str b u], []⟩) (fun _ R s => s.heap.get? l = some { cls := .type "dict", dict := dd, data := .dict es ep, slots := sl } ∧ R (.ok (.ret .notImplemented)) s) :=
  .of_wp fun prog w A R s h => by obtain ⟨hp, g, d, tk, os⟩ := s; obtain ⟨hl, h⟩ := h; have f1 := F.sub_str_dict; wp_walk using wpAny_loadPart' hl, wpAny_load hl; exact ⟨_, rfl, h⟩
section
variable {A : Around} {s : Shared}
theorem rc_str_dict {l : Addr} {es : Array DictEntry} {ep : _} {dd : Option Addr} {sl : Array (Option Value)} (b : Str) (u : Tok) (ho : s.heap.get? l = some { cls := .type "dict", dict := dd, data := .dict es ep, slots := sl }) (hu : A.units < cLine) : RcAt A s (.str b u) (.ref l) false := fun prog w E Q h =>
  rc_eq_decline_or (k := false) (typeIs_str s b u) ⟨_, ho, rfl⟩ (by decide) F.sub_dict_str F.slot_str_eq F.slot_dict_eq_refl
    (fun _ hq => call_meets F.slot_str_eq (typeIs_str s b u) F.entry_str_eq (F.args_str_eq_2 _ _) (str_eq_declines_dict b u l (.type "dict") es ep dd sl) ⟨ho, hq⟩)
    (fun _ hq => call_meets F.slot_dict_eq_refl ⟨_, ho, rfl⟩ F.entry_dict_eq (F.args_dict_eq_2 _ _) (dict_eq_declines_str l es ep dd sl b u) ⟨ho, hq⟩)
    (fun _ hq => wpAny_of_eq (rfl : isSame (.str b u) (.ref l) = pure false) hq) (.inr hu) h
theorem eq_str_dict {l : Addr} {es : Array DictEntry} {ep : _} {dd : Option Addr} {sl : Array (Option Value)} (b : Str) (u : Tok) (ho : s.heap.get? l = some { cls := .type "dict", dict := dd, data := .dict es ep, slots := sl }) (hu : A.units < cLine) : EqAt A s (.str b u) (.ref l) false := fun prog w E Q h => by
  unfold eqBool
  refine wpAny_holding ?_
  refine wpAny_ite_split (fun hab => absurd (eq_of_beq hab) nofun) (fun _ => ?_)
  exact wpAny_bind (rc_str_dict b u ho hu prog w E _ (wpAny_truthy_bool h))
end
section
variable {X : Cx}
/-- a list, a tuple, a dict -/
def Box (K : PySem.W.Frag) (H : Hp) (q : Addr) : Prop := (∃ xs, SqL K H q xs) ∨ (∃ xs, SqT K H q xs) ∨ (∃ kvs, H q = some (.dK kvs)) ∨ ∃ kvs, H q = some (.dT kvs)
theorem eq_box {pins : List (Addr × Obj)} {σ : L2.St} {H : Hp} {s : Shared} {A : Around} {q : Addr} (I : Inv X pins σ H s) (h : Box X.K H q) (b : Str) (u : Tok) (hu : A.units < cLine) : EqAt A s (.str b u) (.ref q) false := by
  rcases h with ⟨xs, h⟩ | ⟨xs, h⟩ | ⟨kvs, h⟩ | ⟨kvs, h⟩
  · obtain ⟨its, r, pl, _⟩ := I.list h
    exact EqAt.str_list b u pl.isList hu
  · obtain ⟨its, r, pl, _⟩ := I.tuple h
    exact EqAt.str_tuple b u pl hu
  · obtain ⟨_, _, vs, _, o, es, ep, e, x, d, _⟩ := (show ObjOk X.prog X.w H s.heap q (.dK kvs) from I.hok q _ h)
    obtain ⟨c, dd, dt, sl⟩ := o
    simp only at d
    subst d
    obtain rfl : c = .type "dict" := x.1
    exact eq_str_dict b u e hu
  · obtain ⟨_, _, vs, _, o, es, ep, e, x, d, _⟩ := (show ObjOk X.prog X.w H s.heap q (.dT kvs) from I.hok q _ h)
    obtain ⟨c, dd, dt, sl⟩ := o
    simp only at d
    subst d
    obtain rfl : c = .type "dict" := x.1
    exact eq_str_dict b u e hu
theorem any_no_ (a : Array Value) : (a.any fun _ => false) = false := by
  rw [Array.any_eq_false]
  intro i hi h
  cases h
/-- a box in a list or tuple of texts: not in it -/
def rInBox (K : PySem.W.Frag) (neg : Bool) : R2 := fun x y H Q => ∃ (q p : Addr) (zs : List Str), x = .ref q ∧ y = .ref p ∧ Box K H q ∧ (SqL K H p (zs.map V.str) ∨ SqT K H p (zs.map V.str)) ∧ Q (.bl neg) H
theorem texts_of {zs : List Str} : ∀ {us : List Value}, Vals (zs.map V.str) us → ∀ w ∈ us, ∃ b t, w = .str b t := by
  induction zs with
  | nil => intro us r; cases r; intro w h; cases h
  | cons z r i =>
    intro us rv w hw
    rw [List.map_cons] at rv
    cases rv with
    | cons a t =>
      obtain ⟨tk, rfl⟩ := a
      rcases List.mem_cons.mp hw with e | h
      · exact ⟨_, _, e⟩
      · exact i t w h
theorem op_inBox (hu : X.A.units + 1 < cLine) : OpR X (compareOp .In) (rInBox X.K false) := by
  intro pins s σ H x y v u Q I rx ry h
  obtain ⟨q, p, zs, rfl, rfl, hb, hq, k⟩ := h
  cases rx
  cases ry
  rcases hq with hq | hq
  · obtain ⟨its, r, pl, hz⟩ := I.list hq
    refine SeqAt.in_listAt (fun _ => false) pl.isList (fun w hw => ?_) ⟨.bl _, H, I, rfl, ?_⟩
    · obtain ⟨b, t, rfl⟩ := texts_of r w (by simpa using hw)
      exact eq_box I hb b t hu
    · rw [any_no_ its.toArray]
      exact k
  · obtain ⟨its, r, pl, hz⟩ := I.tuple hq
    refine SeqAt.in_tupleAt (fun _ => false) pl (fun w hw => ?_) ⟨.bl _, H, I, rfl, ?_⟩
    · obtain ⟨b, t, rfl⟩ := texts_of r w (by simpa using hw)
      exact eq_box I hb b t hu
    · rw [any_no_ its.toArray]
      exact k
theorem op_notInBox (hu : X.A.units + 1 < cLine) : OpR X (compareOp .NotIn) (rInBox X.K true) := by
  intro pins s σ H x y v u Q I rx ry h
  obtain ⟨q, p, zs, rfl, rfl, hb, hq, k⟩ := h
  cases rx
  cases ry
  rcases hq with hq | hq
  · obtain ⟨its, r, pl, hz⟩ := I.list hq
    refine SeqAt.notIn_listAt (fun _ => false) pl.isList (fun w hw => ?_) ⟨.bl _, H, I, rfl, ?_⟩
    · obtain ⟨b, t, rfl⟩ := texts_of r w (by simpa using hw)
      exact eq_box I hb b t hu
    · rw [any_no_ its.toArray]
      exact k
  · obtain ⟨its, r, pl, hz⟩ := I.tuple hq
    refine SeqAt.notIn_tupleAt (fun _ => false) pl (fun w hw => ?_) ⟨.bl _, H, I, rfl, ?_⟩
    · obtain ⟨b, t, rfl⟩ := texts_of r w (by simpa using hw)
      exact eq_box I hb b t hu
    · rw [any_no_ its.toArray]
      exact k
/-- whether a value is one of some texts -/
def hasT (zs : List Str) : V → Bool
  | .str z => decide (z ∈ zs)
  | _ => false
/-- a text, a number, a truth value, None, a list, a tuple, a dict -/
inductive AnyV (K : PySem.W.Frag) (H : Hp) : V → Prop
  | str (z : Str) : AnyV K H (.str z)
  | int (i : Int) : AnyV K H (.int i)
  | bl (b : Bool) : AnyV K H (.bl b)
  | non : AnyV K H .non
  | box {q : Addr} : Box K H q → AnyV K H (.ref q)
theorem eq_anyV {pins : List (Addr × Obj)} {σ : L2.St} {H : Hp} {s : Shared} {A : Around} {x : V} {v : Value} (I : Inv X pins σ H s) (h : AnyV X.K H x) (r : RelV x v) (b : Str) (t : Tok) (hu : A.units < cLine) : EqAt A s (.str b t) v (hasT [b] x) := by
  cases h with
  | str z =>
    obtain ⟨u, rfl⟩ := r
    have e : hasT [b] (.str z) = (b == z) := by
      show decide (z ∈ [b]) = (b == z)
      rw [Bool.eq_iff_iff, decide_eq_true_eq, beq_iff_eq, List.mem_singleton]
      exact eq_comm
    rw [e]
    exact EqAt.str_str b t z u
  | int i =>
    obtain ⟨u, rfl⟩ := r
    exact EqAt.str_int b t i u
  | bl c =>
    cases r
    exact EqAt.str_bool b t c
  | non =>
    cases r
    exact EqAt.str_none b t
  | box hb =>
    cases r
    exact eq_box I hb b t hu
def eT (x : V) : Value → Bool
  | .str b _ => hasT [b] x
  | _ => false
theorem any_eT (x : V) : ∀ {zs : List Str} {us : List Value}, Vals (zs.map V.str) us → us.any (eT x) = hasT zs x
  | [], us, r => by
    cases r
    cases x <;> rfl
  | z :: zs, us, r => by
    rw [List.map_cons] at r
    cases r with
    | cons a q =>
      obtain ⟨t, rfl⟩ := a
      rw [List.any_cons, any_eT x q]
      cases x with
      | str y =>
        show (decide (y ∈ [z]) || decide (y ∈ zs)) = decide (y ∈ z :: zs)
        rw [Bool.eq_iff_iff, Bool.or_eq_true, decide_eq_true_eq, decide_eq_true_eq, decide_eq_true_eq, List.mem_singleton, List.mem_cons]
      | _ => rfl
/-- any value in a list or tuple of texts -/
def rInAny (K : PySem.W.Frag) (neg : Bool) : R2 := fun x y H Q => ∃ (p : Addr) (zs : List Str), y = .ref p ∧ AnyV K H x ∧ (SqL K H p (zs.map V.str) ∨ SqT K H p (zs.map V.str)) ∧ Q (.bl (if neg = true then !hasT zs x else hasT zs x)) H
theorem op_inAny (hu : X.A.units + 1 < cLine) : OpR X (compareOp .In) (rInAny X.K false) := by
  intro pins s σ H x y v u Q I rx ry h
  obtain ⟨p, zs, rfl, hb, hq, k⟩ := h
  cases ry
  rw [if_neg (by decide)] at k
  rcases hq with hq | hq
  · obtain ⟨its, r, pl, hz⟩ := I.list hq
    refine SeqAt.in_listAt (eT x) pl.isList (fun w hw => ?_) ⟨.bl _, H, I, rfl, ?_⟩
    · obtain ⟨b, t, rfl⟩ := texts_of r w (by simpa using hw)
      exact eq_anyV I hb rx b t hu
    · rw [show its.toArray.any (eT x) = its.any (eT x) by simp, any_eT x r]
      exact k
  · obtain ⟨its, r, pl, hz⟩ := I.tuple hq
    refine SeqAt.in_tupleAt (eT x) pl (fun w hw => ?_) ⟨.bl _, H, I, rfl, ?_⟩
    · obtain ⟨b, t, rfl⟩ := texts_of r w (by simpa using hw)
      exact eq_anyV I hb rx b t hu
    · rw [show its.toArray.any (eT x) = its.any (eT x) by simp, any_eT x r]
      exact k
theorem op_notInAny (hu : X.A.units + 1 < cLine) : OpR X (compareOp .NotIn) (rInAny X.K true) := by
  intro pins s σ H x y v u Q I rx ry h
  obtain ⟨p, zs, rfl, hb, hq, k⟩ := h
  cases ry
  rw [if_pos rfl] at k
  rcases hq with hq | hq
  · obtain ⟨its, r, pl, hz⟩ := I.list hq
    refine SeqAt.notIn_listAt (eT x) pl.isList (fun w hw => ?_) ⟨.bl _, H, I, rfl, ?_⟩
    · obtain ⟨b, t, rfl⟩ := texts_of r w (by simpa using hw)
      exact eq_anyV I hb rx b t hu
    · rw [show its.toArray.any (eT x) = its.any (eT x) by simp, any_eT x r]
      exact k
  · obtain ⟨its, r, pl, hz⟩ := I.tuple hq
    refine SeqAt.notIn_tupleAt (eT x) pl (fun w hw => ?_) ⟨.bl _, H, I, rfl, ?_⟩
    · obtain ⟨b, t, rfl⟩ := texts_of r w (by simpa using hw)
      exact eq_anyV I hb rx b t hu
    · rw [show its.toArray.any (eT x) = its.any (eT x) by simp, any_eT x r]
      exact k
end
end XO

namespace V2
open PySem PySem.Spec PyProof.Rows L2 NdefX LamX KT
open PySem.W (Frag)
/-! ### any values before is_kind -/
/-- any value that stands ahead in a tuple -/
inductive HeadV (H : Hp) : V → Prop
  | str (z : Str) : HeadV H (.str z)
  | int (i : Int) : HeadV H (.int i)
  | bl (b : Bool) : HeadV H (.bl b)
  | non : HeadV H .non
  | lst {p : Addr} {xs : List V} : H p = some (.lst xs) → HeadV H (.ref p)
  | tup {p : Addr} {xs : List V} : H p = some (.tup xs) → HeadV H (.ref p)
  | dK {p : Addr} {kvs : List (Key × V)} : H p = some (.dK kvs) → HeadV H (.ref p)
theorem HeadV.any {K : Frag} {H : Hp} {v : V} (h : HeadV H v) : XO.AnyV K H v := by
  cases h with
  | str z => exact .str z
  | int i => exact .int i
  | bl b => exact .bl b
  | non => exact .non
  | lst e => exact .box (.inl ⟨_, SqL.of e⟩)
  | tup e => exact .box (.inr (.inl ⟨_, SqT.of e⟩))
  | dK e => exact .box (.inr (.inr (.inl ⟨_, e⟩)))
theorem HeadV.same {H H' : Hp} {v : V} (s : Same H H') (h : HeadV H v) : HeadV H' v := by
  cases h with
  | str z => exact .str z
  | int i => exact .int i
  | bl b => exact .bl b
  | non => exact .non
  | lst e => exact .lst (s _ _ e)
  | tup e => exact .tup (s _ _ e)
  | dK e => exact .dK (s _ _ e)
def sgs : List Str := ["over", "then", "under"]
/-- a value that is not gone into -/
inductive LeafV (H : Hp) : V → Prop
  | str (z : Str) : z.length ≤ 1000000 → LeafV H (.str z)
  | int (i : Int) : LeafV H (.int i)
  | bl (b : Bool) : LeafV H (.bl b)
  | non : LeafV H .non
  | lst {p : Addr} {xs : List V} : H p = some (.lst xs) → LeafV H (.ref p)
  | dK {p : Addr} {kvs : List (Key × V)} : H p = some (.dK kvs) → LeafV H (.ref p)
  | tup {p : Addr} {xs : List V} : H p = some (.tup xs) → xs.length ≠ 3 → LeafV H (.ref p)
  | odd {p : Addr} {x y z : V} : H p = some (.tup [x, y, z]) → HeadV H x → XO.hasT sgs x = false → LeafV H (.ref p)
theorem LeafV.same {H H' : Hp} {v : V} (s : Same H H') (h : LeafV H v) : LeafV H' v := by
  cases h with
  | str z l => exact .str z l
  | int i => exact .int i
  | bl b => exact .bl b
  | non => exact .non
  | lst e => exact .lst (s _ _ e)
  | dK e => exact .dK (s _ _ e)
  | tup e l => exact .tup (s _ _ e) l
  | odd e h n => exact .odd (s _ _ e) (h.same s) n
def isWordV : V → Bool
  | .str z => isWB z
  | _ => false
/-- a value, whether it is a type, how much is gone into -/
inductive OV (H : Hp) : V → Bool → Nat → Prop
  | leaf {v : V} : LeafV H v → OV H v (isWordV v) 1
  | node {p : Addr} {g : Sg} {x y : V} {a b : Bool} {n m : Nat} : H p = some (.tup [.str g.str, x, y]) → OV H x a n → OV H y b m → OV H (.ref p) (a && b) (n + m + 1)
theorem OV.same {H H' : Hp} {v : V} {b : Bool} {n : Nat} (s : Same H H') (h : OV H v b n) : OV H' v b n := by
  induction h with
  | leaf h => exact .leaf (h.same s)
  | node e _ _ i j => exact .node (s _ _ e) i j
theorem TyAt.ov {H : Hp} {v : V} {t : Ty} (h : TyAt H v t) : OV H v true t.size := by
  induction h with
  | @w z h =>
    have q := OV.leaf (LeafV.str (H := H) z (by have := h.2.1; omega))
    rw [show isWordV (.str z) = true from isWB_of h] at q
    exact q
  | @n p g x y a b e _ _ i j =>
    have q := OV.node e i j
    rw [Bool.and_self] at q
    have : a.size + b.size + 1 = (Ty.n g a b).size := by simp only [Ty.size]; omega
    rw [← this]
    exact q
section
variable {P : Program} {w : World} {K : Frag} {mg : Str → Option Value} {base : Heap}
def clsV : V → String
  | .str _ => "str"
  | .int _ => "int"
  | .bl _ => "bool"
  | _ => "NoneType"
def spIsWordA : Sp := fun vs H Q _ => ∃ v, vs = [v] ∧ LeafV H v ∧ ∀ H', Same H H' → Q (.bl (isWordV v)) H'
theorem ok_isWordA {f : Addr} {fd : FuncData} (T : Top K mg "is_word" sIsWord pIsWord f fd) (B : Blt mg) (G : Gbl K mg) : FnOk P w K mg base CX0 1 f fd pIsWord spIsWordA := by
  obtain ⟨tl, gl⟩ := G.letters
  refine T.F.ok scIsWord (fun vs H Q E h => ?_) (fun cdv A outer s H vs Q E hr h => ?_)
  · obtain ⟨_, rfl, _⟩ := h
    rfl
  · obtain ⟨v, rfl, hd, k⟩ := h
    refine ⟨_, (pss_cons (ps_if (PW.pt (pw_or (pt_not (pt_val (pe_callB call_isi (by rfl) B.isi (by decide +kernel) (pa_cons (pv 0) (pa_cons (pe_bltn (v := .ty "str") (by rfl) B.str_ (by decide +kernel) rfl) pa_nil))))) (pw_or1 (pt_not (pt_chain op_le op_le pe_int (pe_callB call_len_str (by rfl) B.len PySem.boot_len (pa_cons (pv 0) pa_nil)) pe_int))))) (pss_one (ps_ret pe_bl)) pss_nil)
      (pss_one (ps_ret (pe_callB (cr_all rfl) (by rfl) B.all (by decide +kernel) (pa_cons (pe_lc (own := [("letter", 1)]) (g := gName 1) (tt := tYes) rfl scIsWord.nd (pi_str (pv 0)) (blkOk_by (N := nIsWord) (sc := defScope sIsWord) (by decide +kernel)) (fun _ _ _ _ _ => pg_name (i := 1) scIsWord.nd rfl (Or.inl rfl)) (fun _ _ _ _ _ => pts_nil) (fun _ _ _ _ _ => (pe_cmpR op_in_sign (pv 1) (pe_glob (v := .str abc) rfl gl ⟨tl, rfl⟩) (by rfl)))) pa_nil))))), ?_⟩
    cases hd with
    | int i => exact ⟨_, rfl, _, _, _, _, false, rfl, .ty "str", .base (.int i), kit_ty (by decide +kernel), _, rfl, iteT (k _ (Same.refl _))⟩
    | bl b => exact ⟨_, rfl, _, _, _, _, false, rfl, .ty "str", .base (.bl b), kit_ty (by decide +kernel), _, rfl, iteT (k _ (Same.refl _))⟩
    | non => exact ⟨_, rfl, _, _, _, _, false, rfl, .ty "str", .base .non, kit_ty (by decide +kernel), _, rfl, iteT (k _ (Same.refl _))⟩
    | lst e => exact ⟨_, rfl, _, _, _, _, false, rfl, .ty "str", .base (.lst e), kit_ty (by decide +kernel), _, rfl, iteT (k _ (Same.refl _))⟩
    | dK e => exact ⟨_, rfl, _, _, _, _, false, rfl, .ty "str", .base (.dK e), kit_ty (by decide +kernel), _, rfl, iteT (k _ (Same.refl _))⟩
    | tup e l => exact ⟨_, rfl, _, _, _, _, false, rfl, .ty "str", .base (.tup e), kit_ty (by decide +kernel), _, rfl, iteT (k _ (Same.refl _))⟩
    | odd e h n => exact ⟨_, rfl, _, _, _, _, false, rfl, .ty "str", .base (.tup e), kit_ty (by decide +kernel), _, rfl, iteT (k _ (Same.refl _))⟩
    | str z hl =>
      refine ⟨_, rfl, _, _, _, _, true, rfl, .ty "str", .base (.str z), kit_ty (by decide +kernel), _, rfl, ?_⟩
      refine iteF ⟨_, rfl, _, rfl, by rw [sizeLine_eq]; omega, _, _, rfl, rfl, _, rfl, ?_⟩
      have e0 : isWordV (.str z) = (decide (1 ≤ z.length) && decide (z.length ≤ 8) && z.cps.toList.all fun c => decide (97 ≤ c) && decide (c ≤ 122)) := rfl
      rw [e0] at k
      by_cases c1 : 1 ≤ z.length
      · rw [decide_eq_true (show (1 : Int) ≤ (z.length : Int) by omega)]
        refine iteT ⟨_, _, rfl, rfl, _, rfl, ?_⟩
        by_cases c2 : z.length ≤ 8
        · rw [decide_eq_true (show (z.length : Int) ≤ 8 by omega)]
          refine iteF ⟨_, rfl, _, rfl, fun D hD => ?_⟩
          rw [decide_eq_true c1, decide_eq_true c2, Bool.true_and, Bool.true_and] at k
          refine lc_it walk_str (fun i H' => H' = upd H D (.lst ((z.cps.toList.take i).map fun c => V.bl (decide (c ∈ abc.cps.toList))))) (by rw [List.take_zero]; rfl) (fun _ _ _ _ => trivial) ?_ ?_
          · rintro i x H' H2 hi rfl ⟨rfl, c, hc, rfl⟩
            have hc' : z.cps.toList[i]? = some c := by rw [Array.getElem?_toList]; exact hc
            refine ⟨rfl, _, rfl, c, abc, rfl, rfl, _, upd_same, ?_, ?_⟩
            · rw [List.length_map, List.length_take, sizeLine_eq]
              have : z.cps.size ≤ 1000000 := hl
              omega
            · rw [upd_upd, List.take_add_one, hc', List.map_append]
              rfl
          · rintro H' rfl
            have lz : z.cps.size = z.cps.toList.length := by simp
            refine ⟨_, z.cps.toList.map fun c => decide (c ∈ abc.cps.toList), rfl, SqL.of (by rw [upd_same, lz, List.take_length, List.map_map]; rfl), ?_⟩
            have e : (z.cps.toList.map fun c => decide (c ∈ abc.cps.toList)).all id = z.cps.toList.all fun c => decide (97 ≤ c) && decide (c ≤ 122) := by
              rw [List.all_map]
              congr 1
              funext c
              exact abc_iff c
            rw [e]
            exact k _ (same_upd hD)
        · rw [decide_eq_false (show ¬ (z.length : Int) ≤ 8 by omega)]
          rw [decide_eq_false c2, Bool.and_false, Bool.false_and] at k
          exact iteT (k _ (Same.refl _))
      · rw [decide_eq_false (show ¬ (1 : Int) ≤ (z.length : Int) by omega)]
        rw [decide_eq_false c1, Bool.false_and, Bool.false_and] at k
        exact iteF ⟨_, rfl, iteT (k _ (Same.refl _))⟩
/-- whether is_kind goes into a value -/
def spIsSignedA : Sp := fun vs H Q _ => ∃ v b, vs = [v] ∧ ((b = false ∧ LeafV H v) ∨ (b = true ∧ ∃ (p : Addr) (g : Sg) (x y : V), v = .ref p ∧ H p = some (.tup [.str g.str, x, y]))) ∧ Q (.bl b) H
theorem ok_isSignedA {f : Addr} {fd : FuncData} (T : Top K mg "_is_signed" sIsSigned pIsSigned f fd) (B : Blt mg) (G : Gbl K mg) : FnOk P w K mg base CX0 1 f fd pIsSigned spIsSignedA := by
  obtain ⟨sa, gs, hs⟩ := G.signs
  refine T.F.ok scIsSigned (fun vs H Q E h => ?_) (fun cdv A outer s H vs Q E hr h => ?_)
  · obtain ⟨_, _, rfl, _⟩ := h
    rfl
  · obtain ⟨v, b, rfl, hd, k⟩ := h
    refine ⟨_, pss_one (ps_ret (pe_and (pe_callB call_isi (by rfl) B.isi (by decide +kernel) (pa_cons (pv 0) (pa_cons (pe_bltn (v := .ty "tuple") (by rfl) B.tuple (by decide +kernel) rfl) pa_nil))) (pe_and (pe_cmpR op_eq (pe_callB call_len_seq (by rfl) B.len PySem.boot_len (pa_cons (pv 0) pa_nil)) pe_int (nomark _)) (pe_one (pe_cmpR (XO.op_inAny (Nat.lt_of_le_of_lt (Nat.add_le_add_left (by decide : 1 ≤ 65) _) (hu65 hr))) (pe_ix ix_tup (pv 0) pe_int (fun _ _ => rfl)) (pe_glob (v := .ref sa) rfl gs rfl) (by rfl)))))), ?_⟩
    rcases hd with ⟨rfl, hd⟩ | ⟨rfl, p, g, x, y, rfl, e⟩
    · cases hd with
      | str z l => exact ⟨_, rfl, _, _, _, _, false, rfl, .ty "tuple", .base (.str z), kit_ty (by decide +kernel), _, rfl, k⟩
      | int i => exact ⟨_, rfl, _, _, _, _, false, rfl, .ty "tuple", .base (.int i), kit_ty (by decide +kernel), _, rfl, k⟩
      | bl b => exact ⟨_, rfl, _, _, _, _, false, rfl, .ty "tuple", .base (.bl b), kit_ty (by decide +kernel), _, rfl, k⟩
      | non => exact ⟨_, rfl, _, _, _, _, false, rfl, .ty "tuple", .base .non, kit_ty (by decide +kernel), _, rfl, k⟩
      | lst e => exact ⟨_, rfl, _, _, _, _, false, rfl, .ty "tuple", .base (.lst e), kit_ty (by decide +kernel), _, rfl, k⟩
      | dK e => exact ⟨_, rfl, _, _, _, _, false, rfl, .ty "tuple", .base (.dK e), kit_ty (by decide +kernel), _, rfl, k⟩
      | @tup p xs e l =>
        refine ⟨_, rfl, _, _, _, _, true, rfl, .ty "tuple", .base (.tup e), kit_ty (by decide +kernel), _, rfl, _, rfl, p, xs, rfl, .inr (SqT.of e), rfl, _, rfl, ?_⟩
        rw [decide_eq_false (show ¬ (V.int (xs.length : Int)) = V.int 3 from fun z => l (by injection z with z; omega))]
        exact k
      | @odd p x y z e h n =>
        refine ⟨_, rfl, _, _, _, _, true, rfl, .ty "tuple", .base (.tup e), kit_ty (by decide +kernel), _, rfl, _, rfl, p, _, rfl, .inr (SqT.of e), rfl, _, rfl, ?_⟩
        rw [decide_eq_true (show (V.int (([x, y, z] : List V).length : Int)) = V.int 3 from rfl)]
        refine ⟨_, rfl, p, _, _, _, rfl, rfl, SqT.of e, atI_nat (j := 0) rfl, sa, sgs, rfl, h.any, .inr (sqT_any hs), ?_⟩
        rw [if_neg (by decide), n]
        exact k
    · refine ⟨_, rfl, _, _, _, _, true, rfl, .ty "tuple", .base (.tup e), kit_ty (by decide +kernel), _, rfl, _, rfl, p, _, rfl, .inr (SqT.of e), rfl, _, rfl, ?_⟩
      rw [decide_eq_true (show (V.int (([.str g.str, x, y] : List V).length : Int)) = V.int 3 from rfl)]
      refine ⟨_, rfl, p, _, _, _, rfl, rfl, SqT.of e, atI_nat (j := 0) rfl, sa, sgs, rfl, .str _, .inr (sqT_any hs), ?_⟩
      have n : XO.hasT sgs (.str g.str) = true := by cases g <;> decide +kernel
      rw [if_neg (by decide), n]
      exact k
/-- is_kind of any value -/
def spIsKindA : Sp := fun vs H Q _ => ∃ v b n, vs = [v] ∧ OV H v b n ∧ n ≤ 1000000 ∧ ∀ H', Same H H' → Q (.bl b) H'
/-- values that wait -/
inductive OVs (H : Hp) : List V → Bool → Nat → Prop
  | nil : OVs H [] true 0
  | cons {v : V} {vs : List V} {a b : Bool} {n m : Nat} : OV H v a n → OVs H vs b m → OVs H (v :: vs) (a && b) (n + m)
theorem OVs.same {H H' : Hp} {vs : List V} {b : Bool} {n : Nat} (s : Same H H') (h : OVs H vs b n) : OVs H' vs b n := by
  induction h with
  | nil => exact .nil
  | cons a _ i => exact .cons (a.same s) i
theorem OV.pos {H : Hp} {v : V} {b : Bool} {n : Nat} (h : OV H v b n) : 1 ≤ n := by
  cases h <;> omega
theorem OVs.len {H : Hp} {vs : List V} {b : Bool} {n : Nat} (h : OVs H vs b n) : vs.length ≤ n := by
  induction h with
  | nil => exact Nat.le_refl _
  | cons a _ i => have := a.pos; simp only [List.length_cons]; omega
theorem ok_isKindA {f fs fw : Addr} {fd fds fdw : FuncData} (T : Top K mg "is_kind" sIsKind pIsKind f fd) (TS : Top K mg "_is_signed" sIsSigned pIsSigned fs fds) (TW : Top K mg "is_word" sIsWord pIsWord fw fdw) (B : Blt mg) (G : Gbl K mg) :
    FnOk P w K mg base CX0 2 f fd pIsKind spIsKindA := by
  have GS : FnOk P w K mg base CX0 1 fs fds pIsSigned spIsSignedA := ok_isSignedA TS B G
  have GW : FnOk P w K mg base CX0 1 fw fdw pIsWord spIsWordA := ok_isWordA TW B G
  refine T.F.ok scIsKind (fun vs H Q E h => ?_) (fun cdv A outer s H vs Q E hr h => ?_)
  · obtain ⟨_, _, _, rfl, _⟩ := h
    rfl
  · obtain ⟨v, kb, n, rfl, hd, hz, k⟩ := h
    refine ⟨_, (pss_cons (ps_set (i := 1) scIsKind.nd rfl (Or.inl rfl) (pe_lst (pa_cons (pv 0) pa_nil)))
      (pss_cons (ps_while PassesOwn.never (pt_truth (pv 1) (by intro _; rfl))
        (pss_cons (ps_set (i := 2) scIsKind.nd rfl (Or.inl rfl) (pe_bm0 PySem.F.plainAttrs_list PySem.F.slot_list_pop PySem.F.type_list_pop mt_pop (pv 1)))
      (pss_one (ps_if (pt_val (pe_call GS hr rfl TS.g TS.F.kp TS.b .nil pass0 (pa_cons (pv 2) pa_nil))) (pss_one (ps_expr (pe_bm PySem.F.plainAttrs_list PySem.F.slot_list_extend PySem.F.type_list_extend KT.mt_extT (pv 1) (pa_cons (pe_slice sl_tup (pv 2) (po_some pe_int) po_none) pa_nil))))
            (pss_one (ps_if (pt_not (pt_val (pe_call GW hr rfl TW.g TW.F.kp TW.b .nil pass0 (pa_cons (pv 2) pa_nil)))) (pss_one (ps_ret pe_bl)) pss_nil))))))
      (pss_one (ps_ret pe_bl)))), ?_⟩
    refine ⟨v, rfl, by show 1 ≤ sizeLine; rw [sizeLine_eq]; omega, fun W hW => ?_⟩
    refine ⟨fun m σ H' => ∃ (vs : List V) (b : Bool) (v2 : Option V), σ = [some v, some (.ref W), v2] ∧ H' W = some (.lst vs.reverse) ∧ OVs H vs b m ∧ m ≤ 1000000 ∧ kb = b ∧ Same H H',
      ⟨n, [v], kb, none, rfl, upd_same, by have q := OVs.cons hd .nil; rwa [Bool.and_true] at q, hz, rfl, same_upd hW⟩, ?_⟩
    rintro m σ H1 ⟨vs, b, v2, rfl, hL, hT, hm, rfl, hs⟩
    refine ⟨_, rfl, _, .inl ⟨_, SqL.of hL, rfl⟩, ?_⟩
    cases hT with
    | nil => exact iteF (k H1 hs)
    | @cons y vs a b n m h1 h2 =>
      have el : (y :: vs).reverse = vs.reverse ++ [y] := List.reverse_cons
      have c : (!(y :: vs).reverse.isEmpty) = true := by rw [el]; simp
      rw [c]
      have hp1 := h1.pos
      refine iteT ⟨fun σ' H' => ∃ m' < n + m, ∃ (vs : List V) (b' : Bool) (v2 : Option V), σ' = [some v, some (.ref W), v2] ∧ H' W = some (.lst vs.reverse) ∧ OVs H vs b' m' ∧ m' ≤ 1000000 ∧ (a && b) = b' ∧ Same H H', fun σ' H' q => q, ?_⟩
      refine ⟨_, rfl, .inl ⟨rfl, _, SqL.of hL⟩, W, _, y, rfl, rfl, hL, by rw [el]; simp, ?_⟩
      have ed : (y :: vs).reverse.dropLast = vs.reverse := by rw [el]; simp
      rw [ed]
      have hs' : Same H (upd H1 W (.lst vs.reverse)) := same_over hs hW
      cases h1 with
      | leaf hl =>
        refine ⟨y, rfl, y, false, rfl, .inl ⟨rfl, hl.same hs'⟩, _, rfl, iteF ⟨_, rfl, y, rfl, hl.same hs', fun H2 s2 => ⟨_, rfl, ?_⟩⟩⟩
        cases ww : isWordV y with
        | false =>
          rw [ww, Bool.false_and] at k
          exact iteT (k H2 (hs'.trans s2))
        | true => exact iteF ⟨m, by omega, vs, b, _, rfl, s2 _ _ upd_same, h2, by omega, by rw [Bool.true_and], hs'.trans s2⟩
      | @node p g x z ba bb na nb e hx hz' =>
        refine ⟨_, rfl, _, true, rfl, .inr ⟨rfl, p, g, x, z, rfl, hs' _ _ e⟩, _, rfl, iteT ⟨_, rfl, .inl ⟨rfl, _, SqL.of upd_same⟩, _, rfl, _, rfl, p, _, rfl, SqT.of (hs' _ _ e), cut_not, fun p' hp => ?_⟩⟩
        have np : W ≠ p' := ne_of_none upd_same hp
        have l1 := h2.len
        refine ⟨W, p', _, _, rfl, rfl, by rw [upd_ne np, upd_same], SqT.of upd_same, ?_, ?_⟩
        · show vs.reverse.length + 2 ≤ sizeLine
          rw [List.length_reverse, sizeLine_eq]
          omega
        · refine ⟨nb + (na + m), by omega, z :: x :: vs, _, _, rfl, ?_, .cons hz' (.cons hx h2), by omega, ?_, same_over (hs'.trans (same_upd hp)) hW⟩
          · rw [upd_same]
            simp
            rfl
          · rw [← Bool.and_assoc, Bool.and_comm bb ba]
end
end V2

namespace V2
open PySem PySem.Spec PyProof.Rows L2 NdefX LamX KT
open PySem.W (Frag)
/-! ### any values before check_kind, are_kinds, is_row, check_row -/
inductive OVb (H : Hp) : List V → List Bool → Prop
  | nil : OVb H [] []
  | cons {v : V} {b : Bool} {n : Nat} {vs : List V} {bs : List Bool} : OV H v b n → n ≤ 1000000 → OVb H vs bs → OVb H (v :: vs) (b :: bs)
theorem OVb.same {H H' : Hp} {vs : List V} {bs : List Bool} (s : Same H H') (h : OVb H vs bs) : OVb H' vs bs := by
  induction h with
  | nil => exact .nil
  | cons a l _ i => exact .cons (a.same s) l i
theorem OVb.length {H : Hp} {vs : List V} {bs : List Bool} (h : OVb H vs bs) : vs.length = bs.length := by
  induction h with
  | nil => rfl
  | cons _ _ _ i => simp only [List.length_cons, i]
theorem OVb.at_ {H : Hp} {vs : List V} {bs : List Bool} (h : OVb H vs bs) : ∀ {i : Nat} {v : V}, vs[i]? = some v → ∃ b n, bs[i]? = some b ∧ OV H v b n ∧ n ≤ 1000000 := by
  induction h with
  | nil => intro i v e; simp at e
  | @cons u b n vs bs a l _ ih =>
    intro i v e
    cases i with
    | zero => obtain rfl := Option.some.inj e; exact ⟨b, n, rfl, a, l⟩
    | succ i => exact ih (by simpa using e)
/-- no list -/
inductive NotL (H : Hp) : V → Prop
  | str (z : Str) : NotL H (.str z)
  | int (i : Int) : NotL H (.int i)
  | bl (b : Bool) : NotL H (.bl b)
  | non : NotL H .non
  | tup {p : Addr} {xs : List V} : H p = some (.tup xs) → NotL H (.ref p)
  | dK {p : Addr} {kvs : List (Key × V)} : H p = some (.dK kvs) → NotL H (.ref p)
/-- a value, whether it is a list of types, whether it is a row -/
inductive RV (H : Hp) : V → Bool → Bool → Prop
  | no {v : V} : NotL H v → RV H v false false
  | lst {p : Addr} {xs : List V} {bs : List Bool} : H p = some (.lst xs) → xs.length ≤ 4000 → OVb H xs bs → RV H (.ref p) (bs.all id) (bs.all id && decide (0 < xs.length))
theorem RV.same {H H' : Hp} {v : V} {a b : Bool} (s : Same H H') (h : RV H v a b) : RV H' v a b := by
  cases h with
  | no h =>
    cases h with
    | str z => exact .no (.str z)
    | int i => exact .no (.int i)
    | bl b => exact .no (.bl b)
    | non => exact .no .non
    | tup e => exact .no (.tup (s _ _ e))
    | dK e => exact .no (.dK (s _ _ e))
  | lst e l h => exact .lst (s _ _ e) l (h.same s)
section
variable {P : Program} {w : World} {K : Frag} {mg : Str → Option Value} {base : Heap} {C fI : Addr}
def spCheckKindA (C : Addr) : Sp := fun vs H Q E => ∃ v b n, vs = [v] ∧ OV H v b n ∧ n ≤ 1000000 ∧ (b = true → ∀ H', Same H H' → Q .non H') ∧ (b = false → ∀ d H', Same H H' → H' d = none → E (.ref C) (some d) (upd H' d (XN.vdict v)))
theorem ok_checkKindA {f fi : Addr} {fd fdi : FuncData} (T : Top K mg "check_kind" sCheckKind pCheckKind f fd) (TI : Top K mg "is_kind" sIsKind pIsKind fi fdi) (GI : FnOk P w K mg base CX0 2 fi fdi pIsKind spIsKindA) (PE_ : K1.ErrC K mg "InvalidKind" C fI) : FnOk P w K mg base (L2N.CX P w) 3 f fd pCheckKind (spCheckKindA C) := by
  refine T.F.okXN scCheckKind (fun vs H Q E h => ?_) (fun cdv A outer s H vs Q E hr h => ?_)
  · obtain ⟨_, _, _, rfl, _⟩ := h
    rfl
  · obtain ⟨v, b, n, rfl, hv, hn, k1, k2⟩ := h
    have hr1 : Room 1 _ := hr.mono (by decide)
    have rs : Raises (cxOf (L2N.CX P w) P w K mg base nCheckKind "check_kind" (defScope sCheckKind) f cdv A outer s H E) (.ref C) := raises_own PE_.ox.exC PE_.ox.tyC
    refine ⟨_, pss_one (ps_if (pt_not (pt_val (pe_call GI hr rfl TI.g TI.F.kp TI.b .nil pass0 (pa_cons (pv 0) pa_nil)))) (pss_one (XN.ps_raiseE rfl PE_ rs hr1 (L2N.takes_of rfl rfl rfl rfl) (pv 0))) pss_nil), ?_⟩
    refine ⟨v, rfl, v, b, n, rfl, hv, hn, fun H' s' => ⟨_, rfl, ?_⟩⟩
    cases b with
    | true => exact iteF (k1 rfl H' s')
    | false => exact iteT ⟨_, rfl, fun d hd => k2 rfl d H' s' hd⟩
def spAreKindsA : Sp := fun vs H Q _ => ∃ v a b, vs = [v] ∧ RV H v a b ∧ ∀ H', Same H H' → Q (.bl a) H'
theorem ok_areKindsA {f fi : Addr} {fd fdi : FuncData} (T : Top K mg "are_kinds" sAreKinds pAreKinds f fd) (TI : Top K mg "is_kind" sIsKind pIsKind fi fdi) (GI : FnOk P w K mg base CX0 2 fi fdi pIsKind spIsKindA) (B : Blt mg) : FnOk P w K mg base CX0 3 f fd pAreKinds spAreKindsA := by
  refine T.F.ok scAreKinds (fun vs H Q E h => ?_) (fun cdv A outer s H vs Q E hr h => ?_)
  · obtain ⟨_, _, _, rfl, _⟩ := h
    rfl
  · obtain ⟨v, a, b, rfl, hv, k⟩ := h
    refine ⟨_, pss_one (ps_ret (pe_and (pe_callB call_isi (by rfl) B.isi (by decide +kernel) (pa_cons (pv 0) (pa_cons (pe_bltn (v := .ty "list") (by rfl) B.list (by decide +kernel) rfl) pa_nil))) (pe_one (pe_callB (cr_all rfl) (by rfl) B.all (by decide +kernel) (pa_cons (pe_lc (own := [("kind", 1)]) (g := gName 1) (tt := tYes) rfl scAreKinds.nd (pi_list (pv 0)) (blkOk_by (N := nAreKinds) (sc := defScope sAreKinds) (by decide +kernel)) (fun _ _ _ _ _ => pg_name (i := 1) scAreKinds.nd rfl (Or.inl rfl)) (fun _ _ _ _ _ => pts_nil) (fun _ _ _ _ _ => (pe_call GI hr rfl TI.g TI.F.kp TI.b .nil pass0 (pa_cons (pv 1) pa_nil)))) pa_nil))))), ?_⟩
    cases hv with
    | no h =>
      cases h with
      | str z => exact ⟨_, rfl, _, _, _, _, false, rfl, .ty "list", .base (.str z), kit_ty (by decide +kernel), _, rfl, k H (Same.refl _)⟩
      | int i => exact ⟨_, rfl, _, _, _, _, false, rfl, .ty "list", .base (.int i), kit_ty (by decide +kernel), _, rfl, k H (Same.refl _)⟩
      | bl b => exact ⟨_, rfl, _, _, _, _, false, rfl, .ty "list", .base (.bl b), kit_ty (by decide +kernel), _, rfl, k H (Same.refl _)⟩
      | non => exact ⟨_, rfl, _, _, _, _, false, rfl, .ty "list", .base .non, kit_ty (by decide +kernel), _, rfl, k H (Same.refl _)⟩
      | tup e => exact ⟨_, rfl, _, _, _, _, false, rfl, .ty "list", .base (.tup e), kit_ty (by decide +kernel), _, rfl, k H (Same.refl _)⟩
      | dK e => exact ⟨_, rfl, _, _, _, _, false, rfl, .ty "list", .base (.dK e), kit_ty (by decide +kernel), _, rfl, k H (Same.refl _)⟩
    | @lst L us bs eL hl hT =>
      refine ⟨_, rfl, _, _, _, _, true, rfl, .ty "list", .base (.lst eL), kit_ty (by decide +kernel), true, rfl, ?_⟩
      refine ⟨_, rfl, L, rfl, ⟨_, SqL.of eL⟩, fun D hD => ?_⟩
      have lT := hT.length
      refine lc_list (K := K) (xs := us) (fun i H' => Same H H' ∧ H' D = some (.lst ((bs.take i).map V.bl))) ⟨same_upd hD, upd_same⟩ (fun i H' _ q => SqL.of (q.1 _ _ eL)) ?_ ?_
      · rintro i x H' hx ⟨sI, eD⟩
        obtain ⟨b', n, hb, hxt, hn⟩ := hT.at_ hx
        refine ⟨rfl, x, rfl, x, b', n, rfl, hxt.same sI, hn, fun H2 s2 => ⟨_, s2 _ _ eD, by rw [List.length_map, List.length_take, sizeLine_eq]; omega, same_over (sI.trans s2) hD, ?_⟩⟩
        rw [upd_same, List.take_add_one, hb, List.map_append]
        rfl
      · rintro H' ⟨sI, eD⟩
        rw [lT, List.take_length] at eD
        exact ⟨D, bs, rfl, SqL.of eD, k _ sI⟩
def spIsRowA : Sp := fun vs H Q _ => ∃ v a b, vs = [v] ∧ RV H v a b ∧ ∀ H', Same H H' → Q (.bl b) H'
theorem ok_isRowA {f fa : Addr} {fd fda : FuncData} (T : Top K mg "is_row" sIsRow pIsRow f fd) (TA : Top K mg "are_kinds" sAreKinds pAreKinds fa fda) (GA : FnOk P w K mg base CX0 3 fa fda pAreKinds spAreKindsA) (B : Blt mg) : FnOk P w K mg base CX0 4 f fd pIsRow spIsRowA := by
  refine T.F.ok scIsRow (fun vs H Q E h => ?_) (fun cdv A outer s H vs Q E hr h => ?_)
  · obtain ⟨_, _, _, rfl, _⟩ := h
    rfl
  · obtain ⟨v, a, b, rfl, hv, k⟩ := h
    refine ⟨_, pss_one (ps_ret (pe_and (pe_call GA hr rfl TA.g TA.F.kp TA.b .nil pass0 (pa_cons (pv 0) pa_nil)) (pe_one (pe_cmpR op_gt (pe_callB call_len_seq (by rfl) B.len PySem.boot_len (pa_cons (pv 0) pa_nil)) pe_int (nomark _))))), ?_⟩
    refine ⟨_, rfl, v, a, b, rfl, hv, fun H1 s1 => ⟨a, rfl, ?_⟩⟩
    cases hv with
    | no h => exact k H1 s1
    | @lst L us bs eL hl hT =>
      cases ha : bs.all id with
      | false =>
        rw [ha, Bool.false_and] at k
        exact k H1 s1
      | true =>
        refine ⟨_, rfl, L, us, rfl, .inl (SqL.of (s1 _ _ eL)), _, _, rfl, rfl, ?_⟩
        rw [ha, Bool.true_and] at k
        have e : decide ((0 : Int) < (us.length : Int)) = decide (0 < us.length) := by
          rw [Bool.eq_iff_iff, decide_eq_true_eq, decide_eq_true_eq]
          omega
        show Q (.bl (decide ((0 : Int) < (us.length : Int)))) H1
        rw [e]
        exact k H1 s1
def spCheckRowA (C : Addr) : Sp := fun vs H Q E => ∃ v a b, vs = [v] ∧ RV H v a b ∧ (b = true → ∀ H', Same H H' → Q .non H') ∧ (b = false → ∀ d H', Same H H' → H' d = none → E (.ref C) (some d) (upd H' d (XN.vdict v)))
theorem ok_checkRowA {f fa : Addr} {fd fda : FuncData} (T : Top K mg "check_row" sCheckRow pCheckRow f fd) (TA : Top K mg "is_row" sIsRow pIsRow fa fda) (GA : FnOk P w K mg base CX0 4 fa fda pIsRow spIsRowA) (PE_ : K1.ErrC K mg "InvalidRow" C fI) : FnOk P w K mg base (L2N.CX P w) 5 f fd pCheckRow (spCheckRowA C) := by
  refine T.F.okXN scCheckRow (fun vs H Q E h => ?_) (fun cdv A outer s H vs Q E hr h => ?_)
  · obtain ⟨_, _, _, rfl, _⟩ := h
    rfl
  · obtain ⟨v, a, b, rfl, hv, k1, k2⟩ := h
    have hr1 : Room 1 _ := hr.mono (by decide)
    have rs : Raises (cxOf (L2N.CX P w) P w K mg base nCheckRow "check_row" (defScope sCheckRow) f cdv A outer s H E) (.ref C) := raises_own PE_.ox.exC PE_.ox.tyC
    refine ⟨_, pss_one (ps_if (pt_not (pt_val (pe_call GA hr rfl TA.g TA.F.kp TA.b .nil pass0 (pa_cons (pv 0) pa_nil)))) (pss_one (XN.ps_raiseE rfl PE_ rs hr1 (L2N.takes_of rfl rfl rfl rfl) (pv 0))) pss_nil), ?_⟩
    refine ⟨v, rfl, v, a, b, rfl, hv, fun H' s' => ⟨_, rfl, ?_⟩⟩
    cases b with
    | true => exact iteF (k1 rfl H' s')
    | false => exact iteT ⟨_, rfl, fun d hd => k2 rfl d H' s' hd⟩
end
end V2

namespace V2
open PySem PySem.Spec PyProof.Rows L2 NdefX LamX KT
open PySem.W (Frag)
/-! ### the writers before any value -/
theorem OV.ty {H : Hp} {v : V} {b : Bool} {n : Nat} (h : OV H v b n) : b = true → ∃ t, TyAt H v t ∧ t.size = n := by
  induction h with
  | @leaf v h =>
    intro e
    cases h with
    | str z l => exact ⟨.w z, .w (isWB_ok e), rfl⟩
    | _ => cases e
  | @node p g x y a b n m e _ _ i j =>
    intro q
    obtain ⟨q1, q2⟩ := Bool.and_eq_true_iff.mp q
    obtain ⟨t, ht, rfl⟩ := i q1
    obtain ⟨u, hu, rfl⟩ := j q2
    exact ⟨.n g t u, .n e ht hu, by simp only [Ty.size]; omega⟩
theorem Ty.dsize (t : Ty) : t.d.size ≤ 3 * t.size ∧ t.d.dep ≤ t.size := by
  induction t with
  | w z => simp [Ty.d, D.size, D.dep, Ty.size]
  | n g a b i j => simp only [Ty.d, D.size, D.dep, sizeAll, depAll, Ty.size]; omega
section
variable {P : Program} {w : World} {K : Frag} {mg : Str → Option Value} {base : Heap} {T : List (Addr × Str)} {C fI : Addr}
def spKindTextA (C : Addr) (T : List (Addr × Str)) : Sp := fun vs H Q E => ∃ v b n, vs = [v] ∧ OV H v b n ∧ n ≤ 10000 ∧ Tabs T H ∧ (b = true → ∀ z H', ExtN H H' → Tabs T H' → Q (.str z) H') ∧ (b = false → ∀ d H', Same H H' → H' d = none → E (.ref C) (some d) (upd H' d (XN.vdict v)))
theorem ok_kindTextA {f fc fx : Addr} {fd fdc fdx : FuncData} (T0 : Top K mg "kind_text" sKindText pKindText f fd) (TC : Top K mg "check_kind" sCheckKind pCheckKind fc fdc) (GC : FnOk P w K mg base (L2N.CX P w) 3 fc fdc pCheckKind (spCheckKindA C)) (TX : Top K mg "_text_of" sTextOf pTextOf fx fdx) (GX : FnOk P w K mg base CX0 6 fx fdx pTextOf (spTextOf T)) : FnOk P w K mg base (L2N.CX P w) 7 f fd pKindText (spKindTextA C T) := by
  refine T0.F.okXN scKindText (fun vs H Q E h => ?_) (fun cdv A outer s H vs Q E hr h => ?_)
  · obtain ⟨_, _, _, rfl, _⟩ := h
    rfl
  · obtain ⟨v, b, n, rfl, hv, hn, hT, k1, k2⟩ := h
    have hr6 := hr
    have hr3 : Room 3 _ := hr.mono (by decide)
    refine ⟨_, (pss_cons (ps_expr (pe_callS GC hr3 rfl TC.g TC.F.kp TC.b (fun σ => L2N.passAt (L2N.takes_of rfl rfl rfl rfl) σ) (pa_cons (pv 0) pa_nil)))
      (pss_one (ps_ret (pe_call GX hr6 rfl TX.g TX.F.kp TX.b .nil pass0 (pa_cons (pv 0) pa_nil))))), ?_⟩
    refine ⟨_, rfl, v, b, n, rfl, hv, by omega, fun eb H1 s1 => ?_, k2⟩
    obtain ⟨t, ht, hs⟩ := hv.ty eb
    have := t.dsize
    exact ⟨_, rfl, v, t, rfl, ht.mono (TK.of_same s1), by omega, hT.ext s1, fun H2 e2 T2 => k1 eb _ H2 ((extn_same s1).trans e2) T2⟩
def spRowTextA (C : Addr) (sep : Str) (T : List (Addr × Str)) : Sp := fun vs H Q E => ∃ v a b, vs = [v] ∧ RV H v a b ∧ Tabs T H ∧ (b = true → ∃ L ts, v = .ref L ∧ RowAt H L ts ∧ ts ≠ [] ∧ ts.length ≤ 100 ∧ (∀ t ∈ ts, t.d.dep ≤ 60 ∧ t.d.size ≤ 1000) ∧ ∀ H', ExtN H H' → Tabs T H' → Q (.str (Txt.join sep (ts.map Ty.text))) H') ∧ (b = false → ∀ d H', Same H H' → H' d = none → E (.ref C) (some d) (upd H' d (XN.vdict v)))
theorem ok_rowTextA {f fc fx : Addr} {fd fdc fdx : FuncData} (T0 : Top K mg "row_text" sRowText pRowText f fd) (TC : Top K mg "check_row" sCheckRow pCheckRow fc fdc) (GC : FnOk P w K mg base (L2N.CX P w) 5 fc fdc pCheckRow (spCheckRowA C)) (TX : Top K mg "_text_of" sTextOf pTextOf fx fdx) (GX : FnOk P w K mg base CX0 6 fx fdx pTextOf (spTextOf T)) (GB : Gtx mg) : FnOk P w K mg base (L2N.CX P w) 7 f fd pRowText (spRowTextA C (", " : Str) T) := by
  obtain ⟨tb, gB⟩ := GB.b
  refine T0.F.okXN scRowText (fun vs H Q E h => ?_) (fun cdv A outer s H vs Q E hr h => ?_)
  · obtain ⟨_, _, _, rfl, _⟩ := h
    rfl
  · obtain ⟨v, a, b, rfl, hv, hT, kk, k2⟩ := h
    have hr6 := hr
    have hr5 : Room 5 _ := hr.mono (by decide)
    refine ⟨_, (pss_cons (ps_expr (pe_callS GC hr5 rfl TC.g TC.F.kp TC.b (fun σ => L2N.passAt (L2N.takes_of rfl rfl rfl rfl) σ) (pa_cons (pv 0) pa_nil)))
      (pss_one (ps_ret (pe_join (pe_glob (v := .str (", " : Str)) rfl gB ⟨tb, rfl⟩) (pe_lc (own := [("kind", 1)]) (g := (gName 1)) (tt := tYes) rfl scRowText.nd (pi_list (pv 0)) (blkOk_by (N := nRowText) (sc := defScope sRowText) (by decide +kernel)) (fun _ _ _ _ _ => pg_name (i := 1) scRowText.nd rfl (Or.inl rfl)) (fun _ _ _ _ _ => pts_nil) (fun _ _ _ _ _ => (pe_call GX hr6 rfl TX.g TX.F.kp TX.b .nil pass0 (pa_cons (pv 1) pa_nil)))))))), ?_⟩
    refine ⟨_, rfl, v, a, b, rfl, hv, fun eb H1 s1 => ⟨⟨_, rfl⟩, ?_⟩, k2⟩
    obtain ⟨L, ts, ev, hR, hne, hl, hb, k⟩ := kk eb
    subst ev
    obtain ⟨us, eL, hU⟩ := hR.same s1
    have lU := hU.length
    have wk := tys_wok hU
    refine ⟨_, rfl, L, rfl, ⟨_, SqL.of eL⟩, fun D hD => ?_⟩
    refine lc_list (K := K) (xs := us) (fun i H' => ExtN H1 H' ∧ Tabs T H' ∧ H' D = some (.lst ((ts.take i).map fun t => V.str t.text))) ⟨extn_same (same_upd hD), (hT.ext s1).ext (same_upd hD), by rw [upd_same]; rfl⟩ (fun i H' _ q => SqL.of (extn_lst q.1 eL)) ?_ ?_
    · rintro i x H' hx ⟨eH, T2, eD⟩
      obtain ⟨t, ht, hxt⟩ := hU.at_ hx
      have mt := List.mem_of_getElem? ht
      refine ⟨rfl, x, rfl, x, t, rfl, hxt.mono (extn_tk eH), by have := (hb t mt).2; omega, T2, fun H3 e3 T3 => ⟨_, extn_lst e3 eD, by rw [List.length_map, List.length_take, sizeLine_eq]; omega, ?_⟩⟩
      exact ⟨extn_over (eH.trans e3) hD, tabs_lst T3 (extn_lst e3 eD), by rw [upd_same, List.take_add_one, ht, List.map_append]; rfl⟩
    · rintro H' ⟨eH, T2, eD⟩
      rw [lU, List.take_length] at eD
      refine ⟨_, _, ts.map Ty.text, rfl, rfl, .inl (SqL.of (by rw [eD, List.map_map]; rfl)), ?_, k H' ((extn_same s1).trans eH) T2⟩
      have q := sum_le (l := (ts.map Ty.text).map (·.length)) (b := 8000) fun x hx => by
        obtain ⟨y, hy, rfl⟩ := List.mem_map.mp hx
        obtain ⟨t, ht, rfl⟩ := List.mem_map.mp hy
        have := text_len t (wk t ht)
        have := (hb t ht).2
        omega
      have l2 : ((", " : Str)).length = 2 := by decide +kernel
      rw [List.length_map, List.length_map] at q
      rw [l2, List.length_map]
      omega
theorem ok_kindsTextA {f fc fx : Addr} {fd fdc fdx : FuncData} (T0 : Top K mg "kinds_text" sKindsText pKindsText f fd) (TC : Top K mg "check_row" sCheckRow pCheckRow fc fdc) (GC : FnOk P w K mg base (L2N.CX P w) 5 fc fdc pCheckRow (spCheckRowA C)) (TX : Top K mg "_text_of" sTextOf pTextOf fx fdx) (GX : FnOk P w K mg base CX0 6 fx fdx pTextOf (spTextOf T)) (GB : Gtx mg) : FnOk P w K mg base (L2N.CX P w) 7 f fd pKindsText (spRowTextA C ("\n" : Str) T) := by
  obtain ⟨tb, gB⟩ := GB.l
  refine T0.F.okXN scKindsText (fun vs H Q E h => ?_) (fun cdv A outer s H vs Q E hr h => ?_)
  · obtain ⟨_, _, _, rfl, _⟩ := h
    rfl
  · obtain ⟨v, a, b, rfl, hv, hT, kk, k2⟩ := h
    have hr6 := hr
    have hr5 : Room 5 _ := hr.mono (by decide)
    refine ⟨_, (pss_cons (ps_expr (pe_callS GC hr5 rfl TC.g TC.F.kp TC.b (fun σ => L2N.passAt (L2N.takes_of rfl rfl rfl rfl) σ) (pa_cons (pv 0) pa_nil)))
      (pss_one (ps_ret (pe_join (pe_glob (v := .str ("\n" : Str)) rfl gB ⟨tb, rfl⟩) (pe_lc (own := [("kind", 1)]) (g := (gName 1)) (tt := tYes) rfl scKindsText.nd (pi_list (pv 0)) (blkOk_by (N := nKindsText) (sc := defScope sKindsText) (by decide +kernel)) (fun _ _ _ _ _ => pg_name (i := 1) scKindsText.nd rfl (Or.inl rfl)) (fun _ _ _ _ _ => pts_nil) (fun _ _ _ _ _ => (pe_call GX hr6 rfl TX.g TX.F.kp TX.b .nil pass0 (pa_cons (pv 1) pa_nil)))))))), ?_⟩
    refine ⟨_, rfl, v, a, b, rfl, hv, fun eb H1 s1 => ⟨⟨_, rfl⟩, ?_⟩, k2⟩
    obtain ⟨L, ts, ev, hR, hne, hl, hb, k⟩ := kk eb
    subst ev
    obtain ⟨us, eL, hU⟩ := hR.same s1
    have lU := hU.length
    have wk := tys_wok hU
    refine ⟨_, rfl, L, rfl, ⟨_, SqL.of eL⟩, fun D hD => ?_⟩
    refine lc_list (K := K) (xs := us) (fun i H' => ExtN H1 H' ∧ Tabs T H' ∧ H' D = some (.lst ((ts.take i).map fun t => V.str t.text))) ⟨extn_same (same_upd hD), (hT.ext s1).ext (same_upd hD), by rw [upd_same]; rfl⟩ (fun i H' _ q => SqL.of (extn_lst q.1 eL)) ?_ ?_
    · rintro i x H' hx ⟨eH, T2, eD⟩
      obtain ⟨t, ht, hxt⟩ := hU.at_ hx
      have mt := List.mem_of_getElem? ht
      refine ⟨rfl, x, rfl, x, t, rfl, hxt.mono (extn_tk eH), by have := (hb t mt).2; omega, T2, fun H3 e3 T3 => ⟨_, extn_lst e3 eD, by rw [List.length_map, List.length_take, sizeLine_eq]; omega, ?_⟩⟩
      exact ⟨extn_over (eH.trans e3) hD, tabs_lst T3 (extn_lst e3 eD), by rw [upd_same, List.take_add_one, ht, List.map_append]; rfl⟩
    · rintro H' ⟨eH, T2, eD⟩
      rw [lU, List.take_length] at eD
      refine ⟨_, _, ts.map Ty.text, rfl, rfl, .inl (SqL.of (by rw [eD, List.map_map]; rfl)), ?_, k H' ((extn_same s1).trans eH) T2⟩
      have q := sum_le (l := (ts.map Ty.text).map (·.length)) (b := 8000) fun x hx => by
        obtain ⟨y, hy, rfl⟩ := List.mem_map.mp hx
        obtain ⟨t, ht, rfl⟩ := List.mem_map.mp hy
        have := text_len t (wk t ht)
        have := (hb t ht).2
        omega
      have l2 : (("\n" : Str)).length = 1 := by decide +kernel
      rw [List.length_map, List.length_map] at q
      rw [l2, List.length_map]
      omega
end
end V2

namespace KT
open PySem PySem.Spec PyProof.Rows L2
/-- two promises of one def -/
theorem fn_or {P : Program} {w : World} {K : PySem.W.Frag} {mg : Str → Option Value} {base : Heap} {CX : CXT} {k : Nat} {f : Addr} {fd : FuncData} {ps : List Str} {sp1 sp2 : Sp} (F1 : FnOk P w K mg base CX k f fd ps sp1) (F2 : FnOk P w K mg base CX k f fd ps sp2) : FnOk P w K mg base CX k f fd ps (fun vs H Q E => sp1 vs H Q E ∨ sp2 vs H Q E) :=
  ⟨fun vs H Q E h => h.elim (F1.len vs H Q E) (F2.len vs H Q E), fun A st s H args us vs Q E hr e0 hb r h => h.elim (F1.run A st s H args us vs Q E hr e0 hb r) (F2.run A st s H args us vs Q E hr e0 hb r)⟩
end KT
namespace V2
open PySem PySem.Spec PyProof.Rows L2 NdefX LamX KT
open PySem.W (Frag)
/-- no text -/
inductive NotS (H : Hp) : V → Prop
  | int (i : Int) : NotS H (.int i)
  | bl (b : Bool) : NotS H (.bl b)
  | non : NotS H .non
  | lst {p : Addr} {xs : List V} : H p = some (.lst xs) → NotS H (.ref p)
  | tup {p : Addr} {xs : List V} : H p = some (.tup xs) → NotS H (.ref p)
  | dK {p : Addr} {kvs : List (Key × V)} : H p = some (.dK kvs) → NotS H (.ref p)
theorem NotS.tyx {K : Frag} {H : Hp} {v : V} (h : NotS H v) : ∃ c : String, TyX K H v (.type c) ∧ PySem.W.kitOne K (.type c) (.type "str") = some false := by
  cases h with
  | int i => exact ⟨_, .base (.int i), kit_ty (by decide +kernel)⟩
  | bl b => exact ⟨_, .base (.bl b), kit_ty (by decide +kernel)⟩
  | non => exact ⟨_, .base .non, kit_ty (by decide +kernel)⟩
  | lst e => exact ⟨_, .base (.lst e), kit_ty (by decide +kernel)⟩
  | tup e => exact ⟨_, .base (.tup e), kit_ty (by decide +kernel)⟩
  | dK e => exact ⟨_, .base (.dK e), kit_ty (by decide +kernel)⟩
section
variable {P : Program} {w : World} {K : Frag} {mg : Str → Option Value} {base : Heap} {T : List (Addr × Str)} {C fI : Addr}
def spReadN (C : Addr) : Sp := fun vs H Q E => ∃ v, vs = [v] ∧ NotS H v ∧ ∀ d H', Same H H' → H' d = none → E (.ref C) (some d) (upd H' d (XN.vdict v))
theorem ok_readKindN {f : Addr} {fd : FuncData} (T0 : Top K mg "read_kind" sReadKind pReadKind f fd) (B : Blt mg) (PE_ : K1.ErrC K mg "InvalidPaper" C fI) : FnOk P w K mg base (L2N.CX P w) 8 f fd pReadKind (spReadN C) := by
  refine T0.F.okXN scReadKind (fun vs H Q E h => ?_) (fun cdv A outer s H vs Q E hr h => ?_)
  · obtain ⟨_, rfl, _⟩ := h
    rfl
  · obtain ⟨v, rfl, hv, k⟩ := h
    have hr1 : Room 1 _ := hr.mono (by decide)
    have rs : Raises (cxOf (L2N.CX P w) P w K mg base nReadKind "read_kind" (defScope sReadKind) f cdv A outer s H E) (.ref C) := raises_own PE_.ox.exC PE_.ox.tyC
    obtain ⟨c, ty, kc⟩ := hv.tyx (K := K)
    refine ⟨_, pss_cons (ps_set (i := 1) scReadKind.nd rfl (Or.inl rfl) (pe_ifExp (pt_val (pe_callB call_isi (by rfl) B.isi (by decide +kernel) (pa_cons (pv 0) (pa_cons (pe_bltn (v := .ty "str") (by rfl) B.str_ (by decide +kernel) rfl) pa_nil)))) pe_never pe_non))
      (pss_cons (ps_if (pt_cmpR op_isN (pv 1) pe_non (nomark _)) (pss_one (XN.ps_raiseE rfl PE_ rs hr1 (L2N.takes_of rfl rfl rfl rfl) (pv 0))) pss_nil) (pss_one (ps_ret (pv 1)))), ?_⟩
    refine ⟨_, rfl, _, _, _, _, false, rfl, .ty "str", ty, kc, false, rfl, iteF (gN ?_)⟩
    refine ⟨_, rfl, rfl, true, congrArg V.bl (decide_eq_true rfl), iteT ⟨_, rfl, fun d hd => k d _ (Same.refl _) hd⟩⟩
def spKindsToldN (C : Addr) : Sp := fun vs H Q E => ∃ v z, vs = [v, .str z] ∧ NotS H v ∧ ∀ d H', Same H H' → H' d = none → E (.ref C) (some d) (upd H' d (XN.vdict v))
theorem ok_kindsToldN {f : Addr} {fd : FuncData} (T0 : Top K mg "_kinds_told" sKindsTold pKindsTold f fd) (B : Blt mg) (PE_ : K1.ErrC K mg "InvalidPaper" C fI) : FnOk P w K mg base (L2N.CX P w) 8 f fd pKindsTold (spKindsToldN C) := by
  refine T0.F.okXN scKindsTold (fun vs H Q E h => ?_) (fun cdv A outer s H vs Q E hr h => ?_)
  · obtain ⟨_, _, rfl, _⟩ := h
    rfl
  · obtain ⟨v, z, rfl, hv, k⟩ := h
    have hr1 : Room 1 _ := hr.mono (by decide)
    have rs : Raises (cxOf (L2N.CX P w) P w K mg base nKindsTold "_kinds_told" (defScope sKindsTold) f cdv A outer s H E) (.ref C) := raises_own PE_.ox.exC PE_.ox.tyC
    obtain ⟨c, ty, kc⟩ := hv.tyx (K := K)
    refine ⟨_, pss_cons (ps_if (pt_not (pt_val (pe_callB call_isi (by rfl) B.isi (by decide +kernel) (pa_cons (pv 0) (pa_cons (pe_bltn (v := .ty "str") (by rfl) B.str_ (by decide +kernel) rfl) pa_nil))))) (pss_one (XN.ps_raiseE rfl PE_ rs hr1 (L2N.takes_of rfl rfl rfl rfl) (pv 0))) pss_nil) pss_never, ?_⟩
    exact ⟨_, rfl, _, _, _, _, false, rfl, .ty "str", ty, kc, false, rfl, iteT ⟨_, rfl, fun d hd => k d _ (Same.refl _) hd⟩⟩
theorem ok_readRowN {f fk : Addr} {fd fdk : FuncData} (T0 : Top K mg "read_row" sReadRow pReadRow f fd) (TS : Top K mg "_kinds_told" sKindsTold pKindsTold fk fdk) (GS : FnOk P w K mg base (L2N.CX P w) 8 fk fdk pKindsTold (spKindsToldN C)) (GB : Gtx mg) : FnOk P w K mg base (L2N.CX P w) 9 f fd pReadRow (spReadN C) := by
  obtain ⟨tb, gB⟩ := GB.b
  refine T0.F.okXN scReadRow (fun vs H Q E h => ?_) (fun cdv A outer s H vs Q E hr h => ?_)
  · obtain ⟨_, rfl, _⟩ := h
    rfl
  · obtain ⟨v, rfl, hv, k⟩ := h
    refine ⟨_, pss_one (ps_ret (pe_callS GS hr rfl TS.g TS.F.kp TS.b (fun σ => L2N.passAt (L2N.takes_of rfl rfl rfl rfl) σ) (pa_cons (pv 0) (pa_cons (pe_glob (v := .str (", " : Str)) rfl gB ⟨tb, rfl⟩) pa_nil)))), ?_⟩
    exact ⟨_, rfl, v, _, rfl, hv, k⟩
theorem ok_readKindsN {f fk : Addr} {fd fdk : FuncData} (T0 : Top K mg "read_kinds" sReadKinds pReadKinds f fd) (TS : Top K mg "_kinds_told" sKindsTold pKindsTold fk fdk) (GS : FnOk P w K mg base (L2N.CX P w) 8 fk fdk pKindsTold (spKindsToldN C)) (GB : Gtx mg) : FnOk P w K mg base (L2N.CX P w) 9 f fd pReadKinds (spReadN C) := by
  obtain ⟨tb, gB⟩ := GB.l
  refine T0.F.okXN scReadKinds (fun vs H Q E h => ?_) (fun cdv A outer s H vs Q E hr h => ?_)
  · obtain ⟨_, rfl, _⟩ := h
    rfl
  · obtain ⟨v, rfl, hv, k⟩ := h
    refine ⟨_, pss_one (ps_ret (pe_callS GS hr rfl TS.g TS.F.kp TS.b (fun σ => L2N.passAt (L2N.takes_of rfl rfl rfl rfl) σ) (pa_cons (pv 0) (pa_cons (pe_glob (v := .str ("\n" : Str)) rfl gB ⟨tb, rfl⟩) pa_nil)))), ?_⟩
    exact ⟨_, rfl, v, _, rfl, hv, k⟩
/-- a reader before any value -/
def spReadA (sep : Option Str) (C : Addr) (T : List (Addr × Str)) : Sp := fun vs H Q E => spRead sep C T vs H Q E ∨ spReadN C vs H Q E
end
end V2

namespace V2
open PySem PySem.Spec PyProof.Rows L2 NdefX LamX KT
open PySem.W (Frag)
/-! ### the law asks -/
inductive Wy
  | kind
  | row
  | kinds
  | rkind
  | rrow
  | rkinds
def Wy.nm : Wy → Str
  | .kind => "kind"
  | .row => "row"
  | .kinds => "kinds"
  | .rkind => "readkind"
  | .rrow => "readrow"
  | .rkinds => "readkinds"
def inner (CK CR CP : Addr) (T : List (Addr × Str)) : Wy → Sp
  | .kind => spKindTextA CK T
  | .row => spRowTextA CR (", " : Str) T
  | .kinds => spRowTextA CR ("\n" : Str) T
  | .rkind => spReadA none CP T
  | .rrow => spReadA (some (", " : Str)) CP T
  | .rkinds => spReadA (some ("\n" : Str)) CP T
theorem NotS.same {H H' : Hp} {v : V} (s : Same H H') (h : NotS H v) : NotS H' v := by
  cases h with
  | int i => exact .int i
  | bl b => exact .bl b
  | non => exact .non
  | lst e => exact .lst (s _ _ e)
  | tup e => exact .tup (s _ _ e)
  | dK e => exact .dK (s _ _ e)
theorem readA_same {sep : Option Str} {C : Addr} {T : List (Addr × Str)} {vs : List V} {H H1 : Hp} {Q : VK} {E : XK} (s : Same H H1) (h : spReadA sep C T vs H Q E) : spReadA sep C T vs H1 Q E := by
  rcases h with ⟨x, e, hx, hT, k⟩ | ⟨v, e, hv, k⟩
  · refine .inl ⟨x, e, hx, hT.ext s, ?_⟩
    cases sep with
    | none => exact ⟨fun v H' eA T' hv hn => k.1 v H' ((extn_same s).trans eA) T' hv hn, fun hn d H' eA T' nd => k.2 hn d H' ((extn_same s).trans eA) T' nd⟩
    | some sp => exact ⟨fun L us H' eA T' eL hU hn fr => k.1 L us H' ((extn_same s).trans eA) T' eL hU hn (s.free fr), fun hn d H' eA T' nd => k.2 hn d H' ((extn_same s).trans eA) T' nd⟩
  · exact .inr ⟨v, e, hv.same s, fun d H' s' nd => k d H' (s.trans s') nd⟩
theorem rowA_same {sep : Str} {C : Addr} {T : List (Addr × Str)} {vs : List V} {H H1 : Hp} {Q : VK} {E : XK} (s : Same H H1) (h : spRowTextA C sep T vs H Q E) : spRowTextA C sep T vs H1 Q E := by
  obtain ⟨v, a, b, e, hv, hT, k1, k2⟩ := h
  refine ⟨v, a, b, e, hv.same s, hT.ext s, fun eb => ?_, fun eb d H' s' nd => k2 eb d H' (s.trans s') nd⟩
  obtain ⟨L, ts, ev, hR, h1, h2, h3, k⟩ := k1 eb
  exact ⟨L, ts, ev, hR.same s, h1, h2, h3, fun H' eA T' => k H' ((extn_same s).trans eA) T'⟩
def askKvs (fk fr fs : Addr) : List (Key × V) := [(Sum.inr "readkind", .ref fk), (Sum.inr "readrow", .ref fr), (Sum.inr "readkinds", .ref fs)]
inductive Rd3
  | kind
  | row
  | kinds
def Rd3.wy : Rd3 → Wy
  | .kind => .rkind
  | .row => .rrow
  | .kinds => .rkinds
def Rd3.pick (fk fr fs : Addr) : Rd3 → Addr
  | .kind => fk
  | .row => fr
  | .kinds => fs
def Rd3.sep : Rd3 → Option Str
  | .kind => none
  | .row => some (", " : Str)
  | .kinds => some ("\n" : Str)
theorem ask_get (fk fr fs : Addr) (r : Rd3) : valV (mergeK [] (askKvs fk fr fs)) (Sum.inr r.wy.nm) = some (.ref (r.pick fk fr fs)) := by
  have a : decide ((Sum.inr ("readkind" : Str) : Key) = Sum.inr ("readrow" : Str)) = false := by decide +kernel
  have b : decide ((Sum.inr ("readkind" : Str) : Key) = Sum.inr ("readkinds" : Str)) = false := by decide +kernel
  have c : decide ((Sum.inr ("readrow" : Str) : Key) = Sum.inr ("readkinds" : Str)) = false := by decide +kernel
  have m : mergeK [] (askKvs fk fr fs) = askKvs fk fr fs := by
    unfold mergeK askKvs
    simp only [List.foldl_cons, List.foldl_nil, putK, List.any_nil, List.any_cons, a, b, c, Bool.false_or, Bool.or_false, if_neg (show ¬ false = true by decide), List.nil_append, List.cons_append]
  rw [m]
  unfold valV askKvs
  cases r
  · simp only [Rd3.wy, Wy.nm, List.find?_cons, decide_true]
    rfl
  · simp only [Rd3.wy, Wy.nm, List.find?_cons, decide_true, a]
    rfl
  · simp only [Rd3.wy, Wy.nm, List.find?_cons, decide_true, b, c]
    rfl
section
variable {P : Program} {w : World} {K : Frag} {mg : Str → Option Value} {base : Heap} {T : List (Addr × Str)} {CK CR CP : Addr}
def spLAsked (CK CR CP : Addr) (T : List (Addr × Str)) : Sp := fun vs H Q E => ∃ (wy : Wy) (L : Addr) (v : V), vs = [.str wy.nm, .ref L] ∧ H L = some (.lst [v]) ∧ inner CK CR CP T wy [v] H Q E
theorem ok_lasked {f f1 f2 f3 fk fr fs : Addr} {fd fd1 fd2 fd3 fdk fdr fds : FuncData} (T0 : Top K mg "_law_asked" sLAsked pLAsked f fd) (T1 : Top K mg "kind_text" sKindText pKindText f1 fd1) (G1 : FnOk P w K mg base (L2N.CX P w) 7 f1 fd1 pKindText (spKindTextA CK T))
    (T2 : Top K mg "row_text" sRowText pRowText f2 fd2) (G2 : FnOk P w K mg base (L2N.CX P w) 7 f2 fd2 pRowText (spRowTextA CR (", " : Str) T)) (T3 : Top K mg "kinds_text" sKindsText pKindsText f3 fd3) (G3 : FnOk P w K mg base (L2N.CX P w) 7 f3 fd3 pKindsText (spRowTextA CR ("\n" : Str) T))
    (TK_ : Top K mg "read_kind" sReadKind pReadKind fk fdk) (GK : FnOk P w K mg base (L2N.CX P w) 8 fk fdk pReadKind (spReadA none CP T)) (TR : Top K mg "read_row" sReadRow pReadRow fr fdr) (GR : FnOk P w K mg base (L2N.CX P w) 9 fr fdr pReadRow (spReadA (some (", " : Str)) CP T))
    (TS : Top K mg "read_kinds" sReadKinds pReadKinds fs fds) (GS : FnOk P w K mg base (L2N.CX P w) 9 fs fds pReadKinds (spReadA (some ("\n" : Str)) CP T)) (B : Blt mg) : FnOk P w K mg base (L2N.CX P w) 10 f fd pLAsked (spLAsked CK CR CP T) := by
  have K1_ := KT.kbinds_mk (ps := pKindText) (ks := ["kind"]) T1.F (by decide) (fun {α} ws => ws) (fun _ _ _ _ _ _ ws hl => match ws, hl with | [_], _ => rfl) (fun r => r)
  have K2_ := KT.kbinds_mk (ps := pRowText) (ks := ["row"]) T2.F (by decide) (fun {α} ws => ws) (fun _ _ _ _ _ _ ws hl => match ws, hl with | [_], _ => rfl) (fun r => r)
  have K3_ := KT.kbinds_mk (ps := pKindsText) (ks := ["kinds"]) T3.F (by decide) (fun {α} ws => ws) (fun _ _ _ _ _ _ ws hl => match ws, hl with | [_], _ => rfl) (fun r => r)
  have KK := KT.kbinds_mk (ps := pReadKind) (ks := ["text"]) TK_.F (by decide) (fun {α} ws => ws) (fun _ _ _ _ _ _ ws hl => match ws, hl with | [_], _ => rfl) (fun r => r)
  have KR := KT.kbinds_mk (ps := pReadRow) (ks := ["text"]) TR.F (by decide) (fun {α} ws => ws) (fun _ _ _ _ _ _ ws hl => match ws, hl with | [_], _ => rfl) (fun r => r)
  have KS := KT.kbinds_mk (ps := pReadKinds) (ks := ["text"]) TS.F (by decide) (fun {α} ws => ws) (fun _ _ _ _ _ _ ws hl => match ws, hl with | [_], _ => rfl) (fun r => r)
  let kj : Rd3 → Nat := fun | .kind => 8 | .row => 9 | .kinds => 9
  let fj : Rd3 → Addr := fun | .kind => fk | .row => fr | .kinds => fs
  let dj : Rd3 → FuncData := fun | .kind => fdk | .row => fdr | .kinds => fds
  let pj : Rd3 → List Str := fun | .kind => pReadKind | .row => pReadRow | .kinds => pReadKinds
  have FJ : ∀ j, FnOk P w K mg base (L2N.CX P w) (kj j) (fj j) (dj j) (pj j) (spReadA j.sep CP T) := fun j => match j with | .kind => GK | .row => GR | .kinds => GS
  have KJ : ∀ j, KBinds K (dj j) (pj j) ["text"] (gK fun ws => ws) (gK fun ws => ws) := fun j => match j with | .kind => KK | .row => KR | .kinds => KS
  have pJ : ∀ j, PySem.W.keepIn K (.ref (fj j)) = true := fun j => match j with | .kind => TK_.F.kp | .row => TR.F.kp | .kinds => TS.F.kp
  refine T0.F.okXN scLAsked (fun vs H Q E h => ?_) (fun cdv A outer s H vs Q E hr h => ?_)
  · obtain ⟨_, _, _, rfl, _⟩ := h
    rfl
  · have rJ : ∀ j, Room (kj j) _ := fun j => (hr.mono (by cases j <;> decide) : Room (kj j) _)
    have hr7 : Room 7 _ := hr.mono (by decide)
    have hu := hu_of hr
    obtain ⟨wy, L, v, rfl, eL, k⟩ := h
    refine ⟨_, (pss_cons (ps_if (pt_cmpR op_eq (pv 0) pe_str (nomark _)) (pss_one (ps_ret (XN.pe_callKS G1 hr7 rfl T1.g T1.F.kp K1_ (fun σ => L2N.passAt (L2N.takes_of rfl rfl rfl rfl) σ) (pk_cons (pe_ix ix_list (pv 1) pe_int (fun _ _ => rfl)) pk_nil)))) pss_nil)
      (pss_cons (ps_if (pt_cmpR op_in_seq (pv 0) (pe_tup (pa_cons pe_str (pa_cons pe_str pa_nil))) (by rfl)) (pss_one (ps_ret (pe_ifExp (pt_cmpR op_eq (pv 0) pe_str (nomark _)) (XN.pe_callKS G2 hr7 rfl T2.g T2.F.kp K2_ (fun σ => L2N.passAt (L2N.takes_of rfl rfl rfl rfl) σ) (pk_cons (pe_ix ix_list (pv 1) pe_int (fun _ _ => rfl)) pk_nil)) (XN.pe_callKS G3 hr7 rfl T3.g T3.F.kp K3_ (fun σ => L2N.passAt (L2N.takes_of rfl rfl rfl rfl) σ) (pk_cons (pe_ix ix_list (pv 1) pe_int (fun _ _ => rfl)) pk_nil))))) pss_nil)
      (pss_one (ps_ret (XN.pe_callDK FJ rJ pJ KJ (fun σ => L2N.passAt (L2N.takes_of rfl rfl rfl rfl) σ) (pe_dget hu (pe_disp (pps_cons pe_str (pe_glob (v := .ref fk) rfl TK_.g rfl) (pps_cons pe_str (pe_glob (v := .ref fr) rfl TR.g rfl) (pps_cons pe_str (pe_glob (v := .ref fs) rfl TS.g rfl) pps_nil))) (by rfl) (by rfl) (by simp) (by decide)) (pv 0) (fun _ _ => rfl)) (pk_cons (pe_ix ix_list (pv 1) pe_int (fun _ _ => rfl)) pk_nil)))))), ?_⟩
    have ne : ∀ a b : Str, a ≠ b → V.bl (decide (V.str a = V.str b)) = V.bl false := fun a b n => congrArg V.bl (decide_eq_false fun e => n (by injection e))
    have l2 : 2 ≤ sizeLine := by rw [sizeLine_eq]; omega
    cases wy with
    | kind => exact ⟨_, rfl, rfl, true, congrArg V.bl (decide_eq_true rfl), iteT ⟨_, rfl, L, _, _, _, rfl, rfl, SqL.of eL, atI_nat (j := 0) rfl, k⟩⟩
    | row =>
      refine ⟨_, rfl, rfl, false, ne _ _ (by decide +kernel), iteF ⟨_, rfl, l2, fun p hp => ⟨p, _, rfl, .inr (SqT.of upd_same), rfl, rfl, true, by decide +kernel, iteT ?_⟩⟩⟩
      exact ⟨_, rfl, rfl, true, congrArg V.bl (decide_eq_true rfl), iteT ⟨_, rfl, L, _, _, _, rfl, rfl, SqL.of (same_upd hp _ _ eL), atI_nat (j := 0) rfl, rowA_same (same_upd hp) k⟩⟩
    | kinds =>
      refine ⟨_, rfl, rfl, false, ne _ _ (by decide +kernel), iteF ⟨_, rfl, l2, fun p hp => ⟨p, _, rfl, .inr (SqT.of upd_same), rfl, rfl, true, by decide +kernel, iteT ?_⟩⟩⟩
      exact ⟨_, rfl, rfl, false, ne _ _ (by decide +kernel), iteF ⟨_, rfl, L, _, _, _, rfl, rfl, SqL.of (same_upd hp _ _ eL), atI_nat (j := 0) rfl, rowA_same (same_upd hp) k⟩⟩
    | rkind =>
      refine ⟨_, rfl, rfl, false, ne _ _ (by decide +kernel), iteF ⟨_, rfl, l2, fun p hp => ⟨p, _, rfl, .inr (SqT.of upd_same), rfl, rfl, false, by decide +kernel, iteF ?_⟩⟩⟩
      have s0 := same_upd (o := .tup [.str "row", .str "kinds"]) hp
      generalize upd H p (.tup [.str "row", .str "kinds"]) = H0 at s0 ⊢
      refine fun q nq => ⟨upd_same, askKvs fk fr fs, rfl, by show 3 ≤ 15; decide, ?_⟩
      rw [upd_upd]
      have s1 : Same H0 (upd H0 q (.dK (mergeK [] (askKvs fk fr fs)))) := same_upd nq
      have e1 : upd H0 q (.dK (mergeK [] (askKvs fk fr fs))) q = some (.dK (mergeK [] (askKvs fk fr fs))) := upd_same
      generalize upd H0 q (.dK (mergeK [] (askKvs fk fr fs))) = H1 at s1 e1 ⊢
      have g1 := DGet.k (k := Sum.inr (Rd3.wy .kind).nm) e1
      rw [ask_get] at g1
      exact ⟨_, rfl, q, .ref (fj .kind), rfl, g1, .kind, rfl, _, rfl, L, _, _, _, rfl, rfl, SqL.of ((s0.trans s1) _ _ eL), atI_nat (j := 0) rfl, readA_same (s0.trans s1) k⟩
    | rrow =>
      refine ⟨_, rfl, rfl, false, ne _ _ (by decide +kernel), iteF ⟨_, rfl, l2, fun p hp => ⟨p, _, rfl, .inr (SqT.of upd_same), rfl, rfl, false, by decide +kernel, iteF ?_⟩⟩⟩
      have s0 := same_upd (o := .tup [.str "row", .str "kinds"]) hp
      generalize upd H p (.tup [.str "row", .str "kinds"]) = H0 at s0 ⊢
      refine fun q nq => ⟨upd_same, askKvs fk fr fs, rfl, by show 3 ≤ 15; decide, ?_⟩
      rw [upd_upd]
      have s1 : Same H0 (upd H0 q (.dK (mergeK [] (askKvs fk fr fs)))) := same_upd nq
      have e1 : upd H0 q (.dK (mergeK [] (askKvs fk fr fs))) q = some (.dK (mergeK [] (askKvs fk fr fs))) := upd_same
      generalize upd H0 q (.dK (mergeK [] (askKvs fk fr fs))) = H1 at s1 e1 ⊢
      have g1 := DGet.k (k := Sum.inr (Rd3.wy .row).nm) e1
      rw [ask_get] at g1
      exact ⟨_, rfl, q, .ref (fj .row), rfl, g1, .row, rfl, _, rfl, L, _, _, _, rfl, rfl, SqL.of ((s0.trans s1) _ _ eL), atI_nat (j := 0) rfl, readA_same (s0.trans s1) k⟩
    | rkinds =>
      refine ⟨_, rfl, rfl, false, ne _ _ (by decide +kernel), iteF ⟨_, rfl, l2, fun p hp => ⟨p, _, rfl, .inr (SqT.of upd_same), rfl, rfl, false, by decide +kernel, iteF ?_⟩⟩⟩
      have s0 := same_upd (o := .tup [.str "row", .str "kinds"]) hp
      generalize upd H p (.tup [.str "row", .str "kinds"]) = H0 at s0 ⊢
      refine fun q nq => ⟨upd_same, askKvs fk fr fs, rfl, by show 3 ≤ 15; decide, ?_⟩
      rw [upd_upd]
      have s1 : Same H0 (upd H0 q (.dK (mergeK [] (askKvs fk fr fs)))) := same_upd nq
      have e1 : upd H0 q (.dK (mergeK [] (askKvs fk fr fs))) q = some (.dK (mergeK [] (askKvs fk fr fs))) := upd_same
      generalize upd H0 q (.dK (mergeK [] (askKvs fk fr fs))) = H1 at s1 e1 ⊢
      have g1 := DGet.k (k := Sum.inr (Rd3.wy .kinds).nm) e1
      rw [ask_get] at g1
      exact ⟨_, rfl, q, .ref (fj .kinds), rfl, g1, .kinds, rfl, _, rfl, L, _, _, _, rfl, rfl, SqL.of ((s0.trans s1) _ _ eL), atI_nat (j := 0) rfl, readA_same (s0.trans s1) k⟩
end
end V2

namespace V2
open PySem PySem.Spec PyProof.Rows L2 KT LamX
open PySem.W (Frag)
/-! ### any data: texts, numbers, truth values, None, lists, tuples, dictionaries with text keys -/
inductive O
  | s (z : Str)
  | i (n : Int)
  | b (x : Bool)
  | o
  | l (xs : List O)
  | t (xs : List O)
  | d (ks : List (Str × O))
/-- the heap without the object at p -/
def rm (H : Hp) (p : Addr) : Hp := fun b => if b = p then none else H b
theorem rm_ext {H H' : Hp} {p : Addr} (h : ExtN H H') : ExtN (rm H p) (rm H' p) := fun b o e m => by
  unfold rm at e ⊢
  split at e
  · cases e
  · rw [if_neg (by assumption)]
    exact h b o e m
theorem rm_sub {H : Hp} {p : Addr} : Same (rm H p) H := fun b o e => by
  unfold rm at e
  split at e
  · cases e
  · exact e
theorem rm_upd {H : Hp} {p : Addr} {o : HO} : Same (rm H p) (upd H p o) := fun b u e => by
  unfold rm at e
  split at e
  · cases e
  · rw [upd_ne (by assumption)]
    exact e
theorem rm_of {H : Hp} {p : Addr} (h : H p = none) : Same H (rm H p) := fun b o e => by
  unfold rm
  rw [if_neg (ne_of_none e h)]
  exact e
theorem rm_new {H : Hp} {p : Addr} {u : HO} (h : H p = none) : Same H (rm (upd H p u) p) := fun b o e => by
  unfold rm
  rw [if_neg (ne_of_none e h), upd_ne (ne_of_none e h)]
  exact e
theorem same_ext {H H' : Hp} (s : Same H H') : ExtN H H' := fun b o e _ => s b o e
/-- a dictionary of a list of pairs; also while it is walked -/
def R0 (H : Hp) (p : Addr) (kvs : List (Key × V)) : Prop := H p = some (.dK kvs)
def R1 (H : Hp) (p : Addr) (kvs : List (Key × V)) : Prop := Rd H p (.dK kvs)
abbrev RK := Hp → Addr → List (Key × V) → Prop
mutual
inductive OG (R : RK) : Hp → V → O → Prop
  | s {H : Hp} {z : Str} : z.length ≤ 1000000 → OG R H (.str z) (.s z)
  | i {H : Hp} (n : Int) : OG R H (.int n) (.i n)
  | b {H : Hp} (x : Bool) : OG R H (.bl x) (.b x)
  | o {H : Hp} : OG R H .non .o
  | l {H : Hp} {p : Addr} {xs : List V} {ds : List O} : H p = some (.lst xs) → OsG R (rm H p) xs ds → OG R H (.ref p) (.l ds)
  | t {H : Hp} {p : Addr} {xs : List V} {ds : List O} : H p = some (.tup xs) → OsG R H xs ds → OG R H (.ref p) (.t ds)
  | d {H : Hp} {p : Addr} {kvs : List (Key × V)} {ds : List (Str × O)} : R H p kvs → OkG R (rm H p) kvs ds → OG R H (.ref p) (.d ds)
inductive OsG (R : RK) : Hp → List V → List O → Prop
  | nil {H : Hp} : OsG R H [] []
  | cons {H : Hp} {v : V} {vs : List V} {d : O} {ds : List O} : OG R H v d → OsG R H vs ds → OsG R H (v :: vs) (d :: ds)
inductive OkG (R : RK) : Hp → List (Key × V) → List (Str × O) → Prop
  | nil {H : Hp} : OkG R H [] []
  | cons {H : Hp} {v : V} {k : Str} {vs : List (Key × V)} {d : O} {ds : List (Str × O)} : k.length ≤ 1000000 → OG R H v d → OkG R H vs ds → OkG R H ((Sum.inr k, v) :: vs) ((k, d) :: ds)
end
/-- what such data stay under -/
structure Mv (R R' : RK) (E : Hp → Hp → Prop) : Prop where
  rm : ∀ {H H' : Hp} {p : Addr}, E H H' → E (rm H p) (rm H' p)
  l : ∀ {H H' : Hp} {p : Addr} {xs : List V}, E H H' → H p = some (.lst xs) → H' p = some (.lst xs)
  t : ∀ {H H' : Hp} {p : Addr} {xs : List V}, E H H' → H p = some (.tup xs) → H' p = some (.tup xs)
  d : ∀ {H H' : Hp} {p : Addr} {kvs : List (Key × V)}, E H H' → R H p kvs → R' H' p kvs
mutual
theorem OG.mv {R R' : RK} {E : Hp → Hp → Prop} (m : Mv R R' E) : ∀ {d : O} {H H' : Hp} {v : V}, E H H' → OG R H v d → OG R' H' v d
  | .s _, _, _, _, _, .s h => .s h
  | .i _, _, _, _, _, .i n => .i n
  | .b _, _, _, _, _, .b n => .b n
  | .o, _, _, _, _, .o => .o
  | .l _, _, _, _, k, .l e h => .l (m.l k e) (OsG.mv m (m.rm k) h)
  | .t _, _, _, _, k, .t e h => .t (m.t k e) (OsG.mv m k h)
  | .d _, _, _, _, k, .d e h => .d (m.d k e) (OkG.mv m (m.rm k) h)
theorem OsG.mv {R R' : RK} {E : Hp → Hp → Prop} (m : Mv R R' E) : ∀ {ds : List O} {H H' : Hp} {vs : List V}, E H H' → OsG R H vs ds → OsG R' H' vs ds
  | [], _, _, _, _, .nil => .nil
  | _ :: _, _, _, _, k, .cons h r => .cons (OG.mv m k h) (OsG.mv m k r)
theorem OkG.mv {R R' : RK} {E : Hp → Hp → Prop} (m : Mv R R' E) : ∀ {ds : List (Str × O)} {H H' : Hp} {vs : List (Key × V)}, E H H' → OkG R H vs ds → OkG R' H' vs ds
  | [], _, _, _, _, .nil => .nil
  | (_, _) :: _, _, _, _, k, .cons l h r => .cons l (OG.mv m k h) (OkG.mv m k r)
end
abbrev OAt := OG R0
abbrev OsAt := OsG R0
abbrev OkAt := OkG R0
theorem mv_ext : Mv R0 R0 ExtN := ⟨rm_ext, fun k e => k _ _ e fun _ z => (by cases z), fun k e => k _ _ e fun _ z => (by cases z), fun k e => k _ _ e fun _ z => (by cases z)⟩
/-- lists and tuples stay, dictionaries may be walked -/
structure ExtR (H H' : Hp) : Prop where
  l : ∀ {p : Addr} {xs : List V}, H p = some (.lst xs) → H' p = some (.lst xs)
  t : ∀ {p : Addr} {xs : List V}, H p = some (.tup xs) → H' p = some (.tup xs)
  d : ∀ {p : Addr} {kvs : List (Key × V)}, R1 H p kvs → R1 H' p kvs
theorem rm_eq {H : Hp} {p b : Addr} {o : HO} (e : rm H p b = some o) : b ≠ p ∧ H b = some o := by
  unfold rm at e
  split at e
  · cases e
  · exact ⟨by assumption, e⟩
theorem rm_at {H : Hp} {p b : Addr} {o : HO} (n : b ≠ p) (e : H b = some o) : rm H p b = some o := by
  unfold rm
  rw [if_neg n]
  exact e
theorem rm_R1 {H : Hp} {p b : Addr} {kvs : List (Key × V)} (e : R1 (rm H p) b kvs) : b ≠ p ∧ R1 H b kvs := by
  rcases e with e | ⟨o, e⟩
  · exact ⟨(rm_eq e).1, .inl (rm_eq e).2⟩
  · exact ⟨(rm_eq e).1, .inr ⟨o, (rm_eq e).2⟩⟩
theorem R1_rm {H : Hp} {p b : Addr} {kvs : List (Key × V)} (n : b ≠ p) (e : R1 H b kvs) : R1 (rm H p) b kvs := by
  rcases e with e | ⟨o, e⟩
  · exact .inl (rm_at n e)
  · exact .inr ⟨o, rm_at n e⟩
theorem extR_rm {H H' : Hp} {p : Addr} (k : ExtR H H') : ExtR (rm H p) (rm H' p) :=
  ⟨fun e => rm_at (rm_eq e).1 (k.l (rm_eq e).2), fun e => rm_at (rm_eq e).1 (k.t (rm_eq e).2), fun e => R1_rm (rm_R1 e).1 (k.d (rm_R1 e).2)⟩
theorem mv_R : Mv R1 R1 ExtR := ⟨extR_rm, fun k e => k.l e, fun k e => k.t e, fun k e => k.d e⟩
theorem mv_01 : Mv R0 R1 Same := ⟨fun k b o e => rm_at (rm_eq e).1 (k _ _ (rm_eq e).2), fun k e => k _ _ e, fun k e => k _ _ e, fun k e => .inl (k _ _ e)⟩
theorem extR_same {H H' : Hp} (k : Same H H') : ExtR H H' := ⟨fun e => k _ _ e, fun e => k _ _ e, fun e => e.elim (fun e => .inl (k _ _ e)) fun ⟨o, e⟩ => .inr ⟨o, k _ _ e⟩⟩
theorem extR_lock {H : Hp} {a : Addr} {kvs : List (Key × V)} {od : Obj} (e : H a = some (.dK kvs)) : ExtR H (upd H a (.frz od (.dK kvs))) := by
  refine ⟨fun {p xs} q => ?_, fun {p xs} q => ?_, fun {p us} q => ?_⟩
  · rw [upd_ne (fun z => by rw [z, e] at q; cases q)]
    exact q
  · rw [upd_ne (fun z => by rw [z, e] at q; cases q)]
    exact q
  · by_cases z : p = a
    · subst z
      rcases q with q | ⟨o, q⟩
      · rw [e] at q
        cases q
        exact .inr ⟨od, upd_same⟩
      · rw [e] at q
        cases q
    · rcases q with q | ⟨o, q⟩
      · exact .inl (by rw [upd_ne z]; exact q)
      · exact .inr ⟨o, by rw [upd_ne z]; exact q⟩
theorem OG.extR {d : O} {H H' : Hp} {v : V} (k : ExtR H H') (h : OG R1 H v d) : OG R1 H' v d := h.mv mv_R k
theorem OG.r1 {d : O} {H : Hp} {v : V} (h : OAt H v d) : OG R1 H v d := h.mv mv_01 (Same.refl H)
theorem OG.ext {d : O} {H H' : Hp} {v : V} (k : ExtN H H') (h : OAt H v d) : OAt H' v d := h.mv mv_ext k
theorem OsG.ext {d : List O} {H H' : Hp} {v : List V} (k : ExtN H H') (h : OsAt H v d) : OsAt H' v d := h.mv mv_ext k
theorem OkG.ext {d : List (Str × O)} {H H' : Hp} {v : List (Key × V)} (k : ExtN H H') (h : OkAt H v d) : OkAt H' v d := h.mv mv_ext k
theorem OG.same {d : O} {H H' : Hp} {v : V} (s : Same H H') (h : OAt H v d) : OAt H' v d := h.ext (same_ext s)
theorem OsG.same {d : List O} {H H' : Hp} {v : List V} (s : Same H H') (h : OsAt H v d) : OsAt H' v d := h.ext (same_ext s)
theorem OkG.same {d : List (Str × O)} {H H' : Hp} {v : List (Key × V)} (s : Same H H') (h : OkAt H v d) : OkAt H' v d := h.ext (same_ext s)
theorem OsG.length {R : RK} {H : Hp} : ∀ {ds : List O} {vs : List V}, OsG R H vs ds → vs.length = ds.length
  | _, _, .nil => rfl
  | _, _, .cons _ r => by rw [List.length_cons, List.length_cons, r.length]
theorem OkG.length {R : RK} {H : Hp} : ∀ {ds : List (Str × O)} {vs : List (Key × V)}, OkG R H vs ds → vs.length = ds.length
  | _, _, .nil => rfl
  | _, _, .cons _ _ r => by rw [List.length_cons, List.length_cons, r.length]
theorem OsG.append {R : RK} {H : Hp} : ∀ {ds es : List O} {vs us : List V}, OsG R H vs ds → OsG R H us es → OsG R H (vs ++ us) (ds ++ es)
  | _, _, _, _, .nil, h => h
  | _, _, _, _, .cons a r, h => .cons a (r.append h)
theorem OsG.at_ {R : RK} {H : Hp} : ∀ {ds : List O} {vs : List V}, OsG R H vs ds → ∀ {i : Nat} {v : V}, vs[i]? = some v → ∃ d, ds[i]? = some d ∧ OG R H v d
  | _, _, .nil, i, v, e => by simp at e
  | _, _, .cons h r, 0, v, e => by
    obtain rfl := Option.some.inj (show some _ = some v from e)
    exact ⟨_, rfl, h⟩
  | _, _, .cons h r, i + 1, v, e => r.at_ (i := i) (by simpa using e)
theorem OkG.at_ {R : RK} {H : Hp} : ∀ {ds : List (Str × O)} {vs : List (Key × V)}, OkG R H vs ds → ∀ {i : Nat} {k : Key} {v : V}, vs[i]? = some (k, v) → ∃ z d, ds[i]? = some (z, d) ∧ k = Sum.inr z ∧ OG R H v d
  | _, _, .nil, i, k, v, e => by simp at e
  | _, _, .cons _ h r, 0, k, v, e => by
    obtain ⟨rfl, rfl⟩ := Prod.mk.inj (Option.some.inj e)
    exact ⟨_, _, rfl, rfl, h⟩
  | _, _, .cons _ h r, i + 1, k, v, e => r.at_ (i := i) (by simpa using e)
theorem OkG.key {R : RK} {H : Hp} : ∀ {ds : List (Str × O)} {vs : List (Key × V)}, OkG R H vs ds → (ds.map (·.1)).Nodup → ∀ {i : Nat} {z : Str} {d : O}, ds[i]? = some (z, d) → ∃ v, valV vs (Sum.inr z) = some v ∧ OG R H v d
  | _, _, .nil, _, i, z, d, e => by simp at e
  | (k0, _) :: _, _, .cons _ h r, nd, 0, z, d, e => by
    obtain ⟨rfl, rfl⟩ := Prod.mk.inj (Option.some.inj e)
    exact ⟨_, valV_pos rfl, h⟩
  | (k0, _) :: ds, _, .cons _ h r, nd, i + 1, z, d, e => by
    obtain ⟨n1, n2⟩ := List.nodup_cons.mp (show ((k0 :: ds.map (·.1))).Nodup from nd)
    have e' : ds[i]? = some (z, d) := by simpa using e
    obtain ⟨v, e1, h1⟩ := r.key n2 (i := i) e'
    refine ⟨v, ?_, h1⟩
    rw [valV_neg]
    · exact e1
    · intro q
      have q' : k0 = z := Sum.inr.inj q
      exact n1 (by rw [q']; exact List.mem_map.mpr ⟨(z, d), List.mem_of_getElem? e', rfl⟩)
theorem OkG.keys {R : RK} {H : Hp} {ds : List (Str × O)} {vs : List (Key × V)} (h : OkG R H vs ds) : vs.map (fun kv => kV kv.1) = ds.map fun kd => V.str kd.1 := by
  induction ds generalizing vs with
  | nil => cases h; rfl
  | cons x r ih =>
    cases h with
    | cons _ a b => rw [List.map_cons, List.map_cons, ih b]; rfl
theorem OkG.klen {R : RK} {H : Hp} {ds : List (Str × O)} {vs : List (Key × V)} (h : OkG R H vs ds) : ∀ kd ∈ ds, kd.1.length ≤ 1000000 := by
  induction ds generalizing vs with
  | nil => intro kd m; cases m
  | cons x r ih =>
    cases h with
    | cons l a b =>
      intro kd m
      rcases List.mem_cons.mp m with e | m
      · rw [e]; exact l
      · exact ih b kd m
mutual
def O.dep : O → Nat
  | .l xs => odepAll xs + 1
  | .t xs => odepAll xs + 1
  | .d ks => odepKs ks + 2
  | _ => 0
def odepAll : List O → Nat
  | [] => 0
  | d :: r => max d.dep (odepAll r)
def odepKs : List (Str × O) → Nat
  | [] => 0
  | (_, d) :: r => max d.dep (odepKs r)
end
mutual
/-- small enough, no key twice -/
def O.wf : O → Bool
  | .l xs => decide (xs.length ≤ 1000) && owfAll xs
  | .t xs => decide (xs.length ≤ 1000) && owfAll xs
  | .d ks => decide (ks.length ≤ 1000) && decide (ks.map (·.1)).Nodup && owfKs ks
  | _ => true
def owfAll : List O → Bool
  | [] => true
  | d :: r => d.wf && owfAll r
def owfKs : List (Str × O) → Bool
  | [] => true
  | (_, d) :: r => d.wf && owfKs r
end
theorem odepAll_at : ∀ {ds : List O} {i : Nat} {d : O}, ds[i]? = some d → d.dep ≤ odepAll ds
  | [], i, d, e => by simp at e
  | x :: r, 0, d, e => by
    obtain rfl := Option.some.inj (show some x = some d from e)
    exact Nat.le_max_left _ _
  | x :: r, i + 1, d, e => Nat.le_trans (odepAll_at (ds := r) (i := i) (by simpa using e)) (Nat.le_max_right _ _)
theorem odepKs_at : ∀ {ds : List (Str × O)} {i : Nat} {z : Str} {d : O}, ds[i]? = some (z, d) → d.dep ≤ odepKs ds
  | [], i, z, d, e => by simp at e
  | (k, x) :: r, 0, z, d, e => by
    obtain ⟨_, rfl⟩ := Prod.mk.inj (Option.some.inj e)
    exact Nat.le_max_left _ _
  | (k, x) :: r, i + 1, z, d, e => Nat.le_trans (odepKs_at (ds := r) (i := i) (z := z) (by simpa using e)) (Nat.le_max_right _ _)
theorem owfAll_at : ∀ {ds : List O} {i : Nat} {d : O}, owfAll ds = true → ds[i]? = some d → d.wf = true
  | [], i, d, _, e => by simp at e
  | x :: r, 0, d, h, e => by
    obtain rfl := Option.some.inj (show some x = some d from e)
    unfold owfAll at h
    exact (Bool.and_eq_true_iff.mp h).1
  | x :: r, i + 1, d, h, e => owfAll_at (ds := r) (i := i) (by unfold owfAll at h; exact (Bool.and_eq_true_iff.mp h).2) (by simpa using e)
theorem owfKs_at : ∀ {ds : List (Str × O)} {i : Nat} {z : Str} {d : O}, owfKs ds = true → ds[i]? = some (z, d) → d.wf = true
  | [], i, z, d, _, e => by simp at e
  | (k, x) :: r, 0, z, d, h, e => by
    obtain ⟨_, rfl⟩ := Prod.mk.inj (Option.some.inj e)
    unfold owfKs at h
    exact (Bool.and_eq_true_iff.mp h).1
  | (k, x) :: r, i + 1, z, d, h, e => owfKs_at (ds := r) (i := i) (z := z) (by unfold owfKs at h; exact (Bool.and_eq_true_iff.mp h).2) (by simpa using e)
theorem owfAll_app : ∀ {l r : List O}, owfAll (l ++ r) = (owfAll l && owfAll r)
  | [], r => by simp [owfAll]
  | d :: l, r => by simp only [List.cons_append, owfAll, owfAll_app (l := l), Bool.and_assoc]
def O.box : O → Bool
  | .l _ => true
  | .t _ => true
  | .d _ => true
  | _ => false
theorem O.scl {H : Hp} {v v' : V} {x : O} (h : OAt H v x) (h' : OG R1 H v' x) : (v' = v ∧ Scl v) ∨ x.box = true := by
  cases h with
  | s _ => cases h'; exact .inl ⟨rfl, .s _⟩
  | i _ => cases h'; exact .inl ⟨rfl, .i _⟩
  | b _ => cases h'; exact .inl ⟨rfl, .b _⟩
  | o => cases h'; exact .inl ⟨rfl, .o⟩
  | l _ _ => exact .inr rfl
  | t _ _ => exact .inr rfl
  | d _ _ => exact .inr rfl
/-! ### types as such data -/
def Ty.ob : Ty → O
  | .w z => .s z
  | .n g a b => .t [.s g.str, a.ob, b.ob]
theorem TyAt.ob {H : Hp} {v : V} {t : Ty} (h : TyAt H v t) : OAt H v t.ob := by
  induction h with
  | w h => exact .s (by have := h.2.1; omega)
  | @n p g x y a b e _ _ i j => exact .t e (.cons (.s (by cases g <;> decide +kernel)) (.cons i (.cons j .nil)))
theorem Ty.ob_dep (t : Ty) : t.ob.dep ≤ t.signs := by
  induction t with
  | w z => simp [Ty.ob, O.dep]
  | n g a b i j => simp only [Ty.ob, O.dep, odepAll, Ty.signs]; omega
end V2

namespace V2
open PySem PySem.Spec PyProof.Rows L2 KT LamX
open PySem.W (Frag)
section
variable {P : Program} {w : World} {K : Frag} {mg : Str → Option Value} {base : Heap}
/-! ### _law_exact of any data: two values that bear the same are told to be -/
def spExactO (n : Nat) : Sp := fun vs H Q _ => ∃ v v' x, vs = [v, v'] ∧ OAt H v x ∧ OG R1 H v' x ∧ x.wf = true ∧ x.dep ≤ n ∧ ∀ H', Same H H' → Q (.bl true) H'
theorem fn_vacO {f : Addr} {fd : FuncData} {ps : List Str} : FnOk P w K mg base CX0 0 f fd ps (fun _ _ _ _ => False) := ⟨fun _ _ _ _ h => h.elim, fun _ _ _ _ _ _ _ _ _ _ _ _ _ h => h.elim⟩
theorem nodepL {H : Hp} {xs : List O} {n : Nat} (h : (O.l xs).dep ≤ n) {i : Nat} {d : O} (e : xs[i]? = some d) : d.dep + 1 ≤ n := by
  simp only [O.dep] at h
  have := odepAll_at e
  omega
theorem exactO_step {f : Addr} {fd : FuncData} (T : Top K mg "_law_exact" sLExact pLExact f fd) (B : Blt mg) {n m : Nat} {sp' : Sp} (GP : FnOk P w K mg base CX0 m f fd pLExact sp')
    (hsp : ∀ v v' x H Q, OAt H v x → OG R1 H v' x → x.wf = true → x.dep + 1 ≤ n → (∀ H', Same H H' → Q (.bl true) H') → sp' [v, v'] H Q L2.E0) : FnOk P w K mg base CX0 (m + 1) f fd pLExact (spExactO n) := by
  refine T.F.ok scLExact (fun vs H Q E h => ?_) (fun cdv A outer s H vs Q E hr h => ?_)
  · obtain ⟨_, _, _, rfl, _⟩ := h
    rfl
  · have hu := hu_of hr
    obtain ⟨v, v', x, rfl, h1, h2, hw, hn, k⟩ := h
    refine ⟨_, (pss_cons (ps_if (pt_val (pe_callB call_isiT (by rfl) B.isi (by decide +kernel) (pa_cons (pv 0) (pa_cons (pe_tup (pa_cons (pe_bltn (v := .ty "list") (by rfl) B.list (by decide +kernel) rfl) (pa_cons (pe_bltn (v := .ty "tuple") (by rfl) B.tuple (by decide +kernel) rfl) pa_nil))) pa_nil)))) (pss_cons (ps_set (i := 2) scLExact.nd rfl (Or.inl rfl) (pe_and (pe_cmpR op_eq (pe_callB call_isi (by rfl) B.isi (by decide +kernel) (pa_cons (pv 1) (pa_cons (pe_bltn (v := .ty "list") (by rfl) B.list (by decide +kernel) rfl) pa_nil))) (pe_callB call_isi (by rfl) B.isi (by decide +kernel) (pa_cons (pv 0) (pa_cons (pe_bltn (v := .ty "list") (by rfl) B.list (by decide +kernel) rfl) pa_nil))) (nomark _)) (pe_one (pe_cmpR op_eq (pe_callB call_isi (by rfl) B.isi (by decide +kernel) (pa_cons (pv 1) (pa_cons (pe_bltn (v := .ty "tuple") (by rfl) B.tuple (by decide +kernel) rfl) pa_nil))) (pe_callB call_isi (by rfl) B.isi (by decide +kernel) (pa_cons (pv 0) (pa_cons (pe_bltn (v := .ty "tuple") (by rfl) B.tuple (by decide +kernel) rfl) pa_nil))) (nomark _)))))
      (pss_one (ps_ret (pe_and (pv 2) (pe_and (pe_cmpR op_eq (pe_callB call_len_seq (by rfl) B.len PySem.boot_len (pa_cons (pv 0) pa_nil)) (pe_callB call_len_seq (by rfl) B.len PySem.boot_len (pa_cons (pv 1) pa_nil)) (nomark _)) (pe_one (pe_callB (cr_all rfl) (by rfl) B.all (by decide +kernel) (pa_cons (pe_lc (own := [("a", 3), ("b", 4)]) (g := gTup K 2 (gCons (gName 3) (gCons (gName 4) gNil))) (tt := tYes) rfl scLExact.nd (RZ.pi_zipA (by rfl) B.zip (pa_cons (pv 0) (pa_cons (pv 1) pa_nil))) (blkOk_by (N := nLExact) (sc := defScope sLExact) (by decide +kernel)) (fun _ _ _ _ _ => pg_tup (by rfl) (pgs_cons (pg_name (i := 3) scLExact.nd rfl (Or.inl rfl)) (pgs_cons (pg_name (i := 4) scLExact.nd rfl (Or.inl rfl)) pgs_nil))) (fun _ _ _ _ _ => pts_nil)
            (fun _ _ _ _ _ => (pe_call GP hr rfl T.g T.F.kp T.b .nil pass0 (pa_cons (pv 3) (pa_cons (pv 4) pa_nil))))) pa_nil)))))))) pss_nil)
      (pss_cons (ps_if (pt_val (pe_callB call_isi (by rfl) B.isi (by decide +kernel) (pa_cons (pv 0) (pa_cons (pe_bltn (v := .ty "dict") (by rfl) B.dict (by decide +kernel) rfl) pa_nil)))) (pss_cons (ps_set (i := 2) scLExact.nd rfl (Or.inl rfl) (pe_and (pe_callB call_isi (by rfl) B.isi (by decide +kernel) (pa_cons (pv 1) (pa_cons (pe_bltn (v := .ty "dict") (by rfl) B.dict (by decide +kernel) rfl) pa_nil))) (pe_one (pe_call GP hr rfl T.g T.F.kp T.b .nil pass0 (pa_cons (pe_callTy (call_listD rfl) (by rfl) B.list (by decide +kernel) (pa_cons (pv 0) pa_nil)) (pa_cons (pe_callTy (call_listD rfl) (by rfl) B.list (by decide +kernel) (pa_cons (pv 1) pa_nil)) pa_nil))))))
      (pss_one (ps_ret (pe_and (pv 2) (pe_one (pe_callB (cr_all rfl) (by rfl) B.all (by decide +kernel) (pa_cons (pe_lock (pe_lc (own := [("key", 5)]) (g := gName 5) (tt := tYes) rfl scLExact.nd (pi_keys (pv 0)) (blkOk_by (N := nLExact) (sc := defScope sLExact) (by decide +kernel)) (fun _ _ _ _ _ => pg_name (i := 5) scLExact.nd rfl (Or.inl rfl)) (fun _ _ _ _ _ => pts_nil)
            (fun _ _ _ _ _ => (pe_call GP hr rfl T.g T.F.kp T.b .nil pass0 (pa_cons (pe_dget hu (pv 0) (pv 5) (fun _ _ => rfl)) (pa_cons (pe_dget hu (pv 1) (pv 5) (fun _ _ => rfl)) pa_nil)))))) pa_nil))))))) pss_nil)
      (pss_cons (ps_set (i := 2) scLExact.nd rfl (Or.inl rfl) (pe_cmpR op_eq (pe_callB call_isi (by rfl) B.isi (by decide +kernel) (pa_cons (pv 0) (pa_cons (pe_bltn (v := .ty "int") (by rfl) B.int (by decide +kernel) rfl) pa_nil))) (pe_callB call_isi (by rfl) B.isi (by decide +kernel) (pa_cons (pv 1) (pa_cons (pe_bltn (v := .ty "int") (by rfl) B.int (by decide +kernel) rfl) pa_nil))) (nomark _)))
      (pss_one (ps_ret (pe_and (pv 2) (pe_and (pe_cmpR op_eq (pe_callB call_isi (by rfl) B.isi (by decide +kernel) (pa_cons (pv 0) (pa_cons (pe_bltn (v := .ty "bool") (by rfl) B.bool_ (by decide +kernel) rfl) pa_nil))) (pe_callB call_isi (by rfl) B.isi (by decide +kernel) (pa_cons (pv 1) (pa_cons (pe_bltn (v := .ty "bool") (by rfl) B.bool_ (by decide +kernel) rfl) pa_nil))) (nomark _)) (pe_one (pe_cmpR op_eq (pv 0) (pv 1) (nomark _)))))))))), ?_⟩
    rcases O.scl h1 h2 with ⟨rfl, hs⟩ | hbx
    · obtain ⟨c, bi, bb, ty, k1, k2, k3, k4, sc⟩ := scl_ty (K := K) hs
      refine ⟨v', rfl, by show 2 ≤ sizeLine; rw [sizeLine_eq]; omega, fun p hp => ⟨v', p, _, _, _, false, rfl, upd_same, .cons (.ty "list") (.cons (.ty "tuple") .nil), ty _, k1, false, rfl, iteF ?_⟩⟩
      refine ⟨_, rfl, _, _, _, _, false, rfl, .ty "dict", ty _, k2, false, rfl, iteF ?_⟩
      refine ⟨_, rfl, _, _, _, _, bi, rfl, .ty "int", ty _, k3, _, rfl, _, _, _, _, bi, rfl, .ty "int", ty _, k3, rfl, ?_⟩
      refine ⟨_, rfl, true, congrArg V.bl (decide_eq_true rfl), ?_⟩
      refine ⟨_, rfl, _, _, _, _, bb, rfl, .ty "bool", ty _, k4, _, rfl, _, _, _, _, bb, rfl, .ty "bool", ty _, k4, rfl, true, congrArg V.bl (decide_eq_true rfl), ?_⟩
      refine ⟨_, rfl, _, rfl, sc, ?_⟩
      have e : decide (v' = v') = true := decide_eq_true rfl
      rw [e]
      exact k _ (same_upd hp)
    cases h1 with
    | s hz => exact absurd hbx Bool.false_ne_true
    | i n => exact absurd hbx Bool.false_ne_true
    | b n => exact absurd hbx Bool.false_ne_true
    | o => exact absurd hbx Bool.false_ne_true
    | @l _ a xs ds ea hx =>
      cases h2 with
      | @l _ a' ys _ eb hy =>
        have lx := hx.length
        have ly := hy.length
        have hw' : decide (ds.length ≤ 1000) = true ∧ owfAll ds = true := by
          rw [O.wf] at hw
          exact Bool.and_eq_true_iff.mp hw
        have l4 := of_decide_eq_true hw'.1
        have tyA : ∀ p, H p = none → ∀ b zs, H b = some (.lst zs) → TyX K (upd H p (.tup [.ty "list", .ty "tuple"])) (.ref b) (.type "list") := fun p hp b zs e => .base (.lst (show upd H p _ b = _ by rw [upd_ne (ne_of_none e hp)]; exact e))
        refine ⟨.ref a, rfl, by show 2 ≤ sizeLine; rw [sizeLine_eq]; omega, fun p hp => ⟨.ref a, p, _, _, _, true, rfl, upd_same, .cons (.ty "list") (.cons (.ty "tuple") .nil), tyA p hp a xs ea, kitAny_cons (b := true) (kit_ty (by decide +kernel)) (fun z => by cases z) (fun _ => rfl), true, rfl, iteT ?_⟩⟩
        have s1 : Same H (upd H p (.tup [.ty "list", .ty "tuple"])) := same_upd hp
        refine ⟨_, rfl, _, _, _, _, true, rfl, .ty "list", tyA p hp a' ys eb, kit_ty (by decide +kernel), _, rfl, _, _, _, _, true, rfl, .ty "list", tyA p hp a xs ea, kit_ty (by decide +kernel), rfl, true, congrArg V.bl (decide_eq_true rfl), ?_⟩
        refine ⟨_, rfl, _, _, _, _, false, rfl, .ty "tuple", tyA p hp a' ys eb, kit_ty (by decide +kernel), _, rfl, _, _, _, _, false, rfl, .ty "tuple", tyA p hp a xs ea, kit_ty (by decide +kernel), rfl, ?_⟩
        refine ⟨_, rfl, true, congrArg V.bl (decide_eq_true rfl), ?_⟩
        refine ⟨_, rfl, a, xs, rfl, .inl (SqL.of (s1 _ _ ea)), _, rfl, a', ys, rfl, .inl (SqL.of (s1 _ _ eb)), rfl, true, congrArg V.bl (decide_eq_true (by rw [lx, ly])), ?_⟩
        refine ⟨_, rfl, _, rfl, a, a', xs, ys, rfl, .inl ⟨SqL.of (s1 _ _ ea), SqL.of (s1 _ _ eb), fun D hD => ?_⟩⟩
        have sD : Same H (upd (upd H p (.tup [.ty "list", .ty "tuple"])) D (.lst [])) := s1.trans (same_upd hD)
        have nHD : H D = none := s1.free hD
        refine lc_it (walk_zip (n := xs.length) (by omega)) (fun i H' => Same H H' ∧ H' D = some (.lst (List.replicate i (.bl true)))) ⟨sD, upd_same⟩ (fun i H' _ q => ⟨SqL.of (q.1 _ _ ea), SqL.of (q.1 _ _ eb)⟩) ?_ ?_
        · rintro i x H' H2 hi ⟨sI, eD⟩ ⟨Tp, x1, x2, rfl, nT, rfl, g1, g2⟩
          have s2 : Same H' (upd H' Tp (.tup [x1, x2])) := same_upd nT
          obtain ⟨d1, e1, o1⟩ := hx.at_ g1
          obtain ⟨d2, e2, o2⟩ := hy.at_ g2
          obtain rfl := Option.some.inj (e1.symm.trans e2)
          refine ⟨Tp, _, rfl, SqT.of upd_same, rfl, _, _, rfl, _, _, rfl, rfl, rfl, ?_⟩
          refine ⟨_, rfl, _, rfl, hsp _ _ _ _ _ ((o1.same rm_sub).same (sI.trans s2)) (o2.extR (extR_same (fun b o e => (sI.trans s2) b o (rm_sub b o e)))) (owfAll_at hw'.2 e1) (by have := odepAll_at e1; simp only [O.dep] at hn; omega) fun H3 s3 => ⟨_, s3 _ _ (s2 _ _ eD), by rw [List.length_replicate, sizeLine_eq]; omega, ?_, ?_⟩⟩
          · exact same_over ((sI.trans s2).trans s3) nHD
          · rw [upd_same, ← List.replicate_succ']
        · rintro H' ⟨sI, eD⟩
          refine ⟨D, List.replicate xs.length true, rfl, SqL.of (by rw [eD, List.map_replicate]), ?_⟩
          have e : (List.replicate xs.length true).all id = true := by
            rw [List.all_eq_true]
            intro b hb
            exact (List.mem_replicate.mp hb).2
          rw [e]
          exact k _ sI
    | @t _ a xs ds ea hx =>
      cases h2 with
      | @t _ a' ys _ eb hy =>
        have lx := hx.length
        have ly := hy.length
        have hw' : decide (ds.length ≤ 1000) = true ∧ owfAll ds = true := by
          rw [O.wf] at hw
          exact Bool.and_eq_true_iff.mp hw
        have l4 := of_decide_eq_true hw'.1
        have tyA : ∀ p, H p = none → ∀ b zs, H b = some (.tup zs) → TyX K (upd H p (.tup [.ty "list", .ty "tuple"])) (.ref b) (.type "tuple") := fun p hp b zs e => .base (.tup (show upd H p _ b = _ by rw [upd_ne (ne_of_none e hp)]; exact e))
        refine ⟨.ref a, rfl, by show 2 ≤ sizeLine; rw [sizeLine_eq]; omega, fun p hp => ⟨.ref a, p, _, _, _, true, rfl, upd_same, .cons (.ty "list") (.cons (.ty "tuple") .nil), tyA p hp a xs ea, kitAny_cons (b := false) (kit_ty (by decide +kernel)) (fun _ => kitAny_cons (b := true) (kit_ty (by decide +kernel)) (fun z => by cases z) (fun _ => rfl)) (fun z => by cases z), true, rfl, iteT ?_⟩⟩
        have s1 : Same H (upd H p (.tup [.ty "list", .ty "tuple"])) := same_upd hp
        refine ⟨_, rfl, _, _, _, _, false, rfl, .ty "list", tyA p hp a' ys eb, kit_ty (by decide +kernel), _, rfl, _, _, _, _, false, rfl, .ty "list", tyA p hp a xs ea, kit_ty (by decide +kernel), rfl, true, congrArg V.bl (decide_eq_true rfl), ?_⟩
        refine ⟨_, rfl, _, _, _, _, true, rfl, .ty "tuple", tyA p hp a' ys eb, kit_ty (by decide +kernel), _, rfl, _, _, _, _, true, rfl, .ty "tuple", tyA p hp a xs ea, kit_ty (by decide +kernel), rfl, ?_⟩
        refine ⟨_, rfl, true, congrArg V.bl (decide_eq_true rfl), ?_⟩
        refine ⟨_, rfl, a, xs, rfl, .inr (SqT.of (s1 _ _ ea)), _, rfl, a', ys, rfl, .inr (SqT.of (s1 _ _ eb)), rfl, true, congrArg V.bl (decide_eq_true (by rw [lx, ly])), ?_⟩
        refine ⟨_, rfl, _, rfl, a, a', xs, ys, rfl, .inr ⟨SqT.of (s1 _ _ ea), SqT.of (s1 _ _ eb), fun D hD => ?_⟩⟩
        have sD : Same H (upd (upd H p (.tup [.ty "list", .ty "tuple"])) D (.lst [])) := s1.trans (same_upd hD)
        have nHD : H D = none := s1.free hD
        refine lc_it (walk_zipT (n := xs.length) (by omega)) (fun i H' => Same H H' ∧ H' D = some (.lst (List.replicate i (.bl true)))) ⟨sD, upd_same⟩ (fun i H' _ q => ⟨SqT.of (q.1 _ _ ea), SqT.of (q.1 _ _ eb)⟩) ?_ ?_
        · rintro i x H' H2 hi ⟨sI, eD⟩ ⟨Tp, x1, x2, rfl, nT, rfl, g1, g2⟩
          have s2 : Same H' (upd H' Tp (.tup [x1, x2])) := same_upd nT
          obtain ⟨d1, e1, o1⟩ := hx.at_ g1
          obtain ⟨d2, e2, o2⟩ := hy.at_ g2
          obtain rfl := Option.some.inj (e1.symm.trans e2)
          refine ⟨Tp, _, rfl, SqT.of upd_same, rfl, _, _, rfl, _, _, rfl, rfl, rfl, ?_⟩
          refine ⟨_, rfl, _, rfl, hsp _ _ _ _ _ (o1.same (sI.trans s2)) (o2.extR (extR_same (sI.trans s2))) (owfAll_at hw'.2 e1) (by have := odepAll_at e1; simp only [O.dep] at hn; omega) fun H3 s3 => ⟨_, s3 _ _ (s2 _ _ eD), by rw [List.length_replicate, sizeLine_eq]; omega, ?_, ?_⟩⟩
          · exact same_over ((sI.trans s2).trans s3) nHD
          · rw [upd_same, ← List.replicate_succ']
        · rintro H' ⟨sI, eD⟩
          refine ⟨D, List.replicate xs.length true, rfl, SqL.of (by rw [eD, List.map_replicate]), ?_⟩
          have e : (List.replicate xs.length true).all id = true := by
            rw [List.all_eq_true]
            intro b hb
            exact (List.mem_replicate.mp hb).2
          rw [e]
          exact k _ sI
    | @d _ a kvs ds ea hx =>
      cases h2 with
      | @d _ a' kvs' _ eb hy =>
        have lx := hx.length
        have ly := hy.length
        have hw' : ds.length ≤ 1000 ∧ (ds.map (·.1)).Nodup ∧ owfKs ds = true := by
          rw [O.wf] at hw
          obtain ⟨w1, w2⟩ := Bool.and_eq_true_iff.mp hw
          obtain ⟨w3, w4⟩ := Bool.and_eq_true_iff.mp w1
          exact ⟨of_decide_eq_true w3, of_decide_eq_true w4, w2⟩
        obtain ⟨l4, nd, wk⟩ := hw'
        have lk := hx.klen
        have ea0 : H a = some (.dK kvs) := ea
        have tyA : ∀ p, H p = none → ∀ b zs, R1 H b zs → TyX K (upd H p (.tup [.ty "list", .ty "tuple"])) (.ref b) (.type "dict") := fun p hp b zs e => e.elim (fun e => .base (.dK (show upd H p _ b = _ by rw [upd_ne (ne_of_none e hp)]; exact e))) fun ⟨o, e⟩ => .fDict (o := o) (show upd H p _ b = _ by rw [upd_ne (ne_of_none e hp)]; exact e)
        refine ⟨.ref a, rfl, by show 2 ≤ sizeLine; rw [sizeLine_eq]; omega, fun p hp => ⟨.ref a, p, _, _, _, false, rfl, upd_same, .cons (.ty "list") (.cons (.ty "tuple") .nil), tyA p hp a kvs (.inl ea), kitAny_cons (b := false) (kit_ty (by decide +kernel)) (fun _ => kitAny_cons (b := false) (kit_ty (by decide +kernel)) (fun _ => kitAny_nil) (fun z => by cases z)) (fun z => by cases z), false, rfl, iteF ?_⟩⟩
        have s1 : Same H (upd H p (.tup [.ty "list", .ty "tuple"])) := same_upd hp
        refine ⟨_, rfl, _, _, _, _, true, rfl, .ty "dict", tyA p hp a kvs (.inl ea), kit_ty (by decide +kernel), true, rfl, iteT ?_⟩
        refine ⟨_, rfl, _, _, _, _, true, rfl, .ty "dict", tyA p hp a' kvs' eb, kit_ty (by decide +kernel), true, rfl, ?_⟩
        have ea1 : upd H p (.tup [.ty "list", .ty "tuple"]) a = some (.dK kvs) := s1 _ _ ea0
        have eb1 : R1 (upd H p (.tup [.ty "list", .ty "tuple"])) a' kvs' := (extR_same s1).d eb
        have hx1 : OkAt (rm (upd H p (.tup [.ty "list", .ty "tuple"])) a) kvs ds := hx.ext (rm_ext (same_ext s1))
        have hy1 : OkG R1 (rm (upd H p (.tup [.ty "list", .ty "tuple"])) a') kvs' ds := hy.mv mv_R (extR_rm (extR_same s1))
        generalize upd H p (.tup [.ty "list", .ty "tuple"]) = H1 at s1 ea1 eb1 hx1 hy1 ⊢
        have kx := hx.keys
        have ky := hy.keys
        have rdn : ∀ {G : Hp} {q : Addr} {o : HO} {b : Addr} {us : List (Key × V)}, G q = none → R1 G b us → R1 (upd G q o) b us := fun {G q o b us} hq e => (extR_same (same_upd hq)).d e
        refine ⟨_, rfl, a, kvs, rfl, .inl ea1, fun q1 hq1 => ⟨_, rfl, a', kvs', rfl, rdn hq1 eb1, fun q2 hq2 => ?_⟩⟩
        have s2 : Same H1 (upd H1 q1 (.lst (kvs.map fun kv => kV kv.1))) := same_upd hq1
        have s3 : Same (upd H1 q1 (.lst (kvs.map fun kv => kV kv.1))) (upd (upd H1 q1 (.lst (kvs.map fun kv => kV kv.1))) q2 (.lst (kvs'.map fun kv => kV kv.1))) := same_upd hq2
        have e1 := s3 _ _ (show upd H1 q1 (.lst (kvs.map fun kv => kV kv.1)) q1 = _ from upd_same)
        have e2 : upd (upd H1 q1 (.lst (kvs.map fun kv => kV kv.1))) q2 (.lst (kvs'.map fun kv => kV kv.1)) q2 = _ := upd_same
        have s23 := s2.trans s3
        generalize upd (upd H1 q1 (.lst (kvs.map fun kv => kV kv.1))) q2 (.lst (kvs'.map fun kv => kV kv.1)) = H2 at e1 e2 s23 ⊢
        rw [kx] at e1
        rw [ky] at e2
        have keysAt : ∀ (R : RK) (G : Hp) (es : List (Str × O)), (∀ kd ∈ es, kd.1.length ≤ 1000000) → OsG R G (es.map fun kd => V.str kd.1) (es.map fun kd => O.s kd.1) := by
          intro R G es
          induction es with
          | nil => intro _; exact .nil
          | cons x r ih => intro hl; exact .cons (.s (hl x List.mem_cons_self)) (ih fun kd h => hl kd (List.mem_cons_of_mem _ h))
        have kdep : ∀ es : List (Str × O), odepAll (es.map fun kd => O.s kd.1) = 0 := by
          intro es
          induction es with
          | nil => rfl
          | cons x r ih => simp only [List.map_cons, odepAll, O.dep, ih]; rfl
        have kwf : ∀ es : List (Str × O), owfAll (es.map fun kd => O.s kd.1) = true := by
          intro es
          induction es with
          | nil => rfl
          | cons x r ih => simp only [List.map_cons, owfAll, O.wf, ih]; rfl
        refine hsp _ _ (.l (ds.map fun kd => O.s kd.1)) _ _ (.l e1 (keysAt _ _ _ lk)) (.l e2 (keysAt _ _ _ lk)) ?_ ?_ fun H4 s4 => ?_
        · rw [O.wf, kwf, List.length_map, decide_eq_true l4]
          rfl
        · rw [O.dep, kdep]
          simp only [O.dep] at hn
          omega
        have ea4 : H4 a = some (.dK kvs) := s4 _ _ (s23 _ _ ea1)
        have eb4 : R1 H4 a' kvs' := (extR_same (s23.trans s4)).d eb1
        have hx4 : OkAt (rm H4 a) kvs ds := hx1.ext (rm_ext (same_ext (s23.trans s4)))
        have hy4 : OkG R1 (rm H4 a') kvs' ds := hy1.mv mv_R (extR_rm (extR_same (s23.trans s4)))
        have s04 : Same H H4 := s1.trans (s23.trans s4)
        refine ⟨_, rfl, true, rfl, a, .dK kvs, ea4, trivial, fun od => ⟨_, rfl, a, od, rfl, .inl ⟨kvs, upd_same, fun D hD => ?_⟩⟩⟩
        have nDa : a ≠ D := ne_of_none upd_same hD
        have nHD : H4 D = none := by
          rw [upd_ne nDa.symm] at hD
          exact hD
        refine lc_it walk_keys (fun i H' => Same (upd H4 a (.frz od (.dK kvs))) H' ∧ H' D = some (.lst (List.replicate i (.bl true)))) ⟨same_upd hD, upd_same⟩ (fun i H' _ q => q.1 _ _ upd_same) ?_ ?_
        · rintro i x H' H2' hi ⟨sI, eD⟩ ⟨rfl, k0, v0, ek, rfl⟩
          obtain ⟨z, d, e5, rfl, _⟩ := hx4.at_ ek
          obtain ⟨v1, g1, o1⟩ := hx4.key nd e5
          obtain ⟨v2, g2, o2⟩ := hy4.key nd e5
          have rb : Rd H2' a' (.dK kvs') := by
            by_cases z : a' = a
            · rw [z] at eb4 ⊢
              rcases eb4 with e | ⟨o, e⟩
              · rw [ea4] at e
                cases e
                exact .inr ⟨od, sI _ _ upd_same⟩
              · rw [ea4] at e
                cases e
            · rcases eb4 with e | ⟨o, e⟩
              · exact .inl (sI _ _ (by rw [upd_ne z]; exact e))
              · exact .inr ⟨o, sI _ _ (by rw [upd_ne z]; exact e)⟩
          refine ⟨rfl, _, rfl, _, rfl, a, v1, rfl, .inl ⟨kvs, Sum.inr z, .inr ⟨od, sI _ _ upd_same⟩, rfl, g1.symm⟩, _, rfl, _, rfl, a', v2, rfl, .inl ⟨kvs', Sum.inr z, rb, rfl, g2.symm⟩, ?_⟩
          refine hsp _ _ d _ _ (o1.same (fun b o e => sI _ _ (rm_upd b o e))) ((o2.extR (extR_same rm_sub)).extR ⟨fun e => sI _ _ ((extR_lock ea4).l e), fun e => sI _ _ ((extR_lock ea4).t e), fun e => (extR_same sI).d ((extR_lock ea4).d e)⟩) (owfKs_at wk e5) (by have := odepKs_at e5; simp only [O.dep] at hn; omega) fun H3 s3' => ⟨_, s3' _ _ eD, by rw [List.length_replicate, sizeLine_eq]; have := (List.getElem?_eq_some_iff.mp e5).1; omega, ?_, ?_⟩
          · exact same_over (sI.trans s3') hD
          · rw [upd_same, ← List.replicate_succ']
        · rintro H' ⟨sI, eD⟩
          refine ⟨sI _ _ upd_same, D, List.replicate kvs.length true, rfl, SqL.of (by rw [upd_ne nDa.symm, eD, List.map_replicate]), ?_⟩
          have e : (List.replicate kvs.length true).all id = true := by
            rw [List.all_eq_true]
            intro b hb
            exact (List.mem_replicate.mp hb).2
          rw [e]
          refine k _ fun b o q => ?_
          have q4 := s04 _ _ q
          by_cases z : b = a
          · subst z
            rw [ea4] at q4
            rw [upd_same]
            exact q4
          · rw [upd_ne z]
            exact sI _ _ (by rw [upd_ne z]; exact q4)
theorem ok_exactO {f : Addr} {fd : FuncData} (T : Top K mg "_law_exact" sLExact pLExact f fd) (B : Blt mg) : ∀ n : Nat, FnOk P w K mg base CX0 (1 + n) f fd pLExact (spExactO n)
  | 0 => exactO_step T B (n := 0) fn_vacO (fun _ _ _ _ _ _ _ _ h => absurd h (by omega))
  | n + 1 => exactO_step T B (n := n + 1) (ok_exactO T B n) (fun v v' x H Q h1 h2 hw hd k => ⟨v, v', x, rfl, h1, h2, hw, by omega, k⟩)
end
end V2

namespace V2
open PySem PySem.Spec PyProof.Rows L2 KT LamX
open PySem.W (Frag)
/-! ### what the program says of such data -/
def isWordO : O → Bool
  | .s z => isWB z
  | _ => false
def headO : O → Bool
  | .s z => decide (z ∈ sgs)
  | _ => false
/-- what is_kind doesn't go into -/
def O.leafy : O → Bool
  | .t [x, _, _] => !headO x
  | _ => true
inductive OK : O → Bool → Nat → Prop
  | leaf {x : O} : x.leafy = true → OK x (isWordO x) 1
  | node {g : Sg} {x y : O} {a b : Bool} {n m : Nat} : OK x a n → OK y b m → OK (.t [.s g.str, x, y]) (a && b) (n + m + 1)
theorem O.headV {H : Hp} {v : V} {x : O} (h : OAt H v x) : HeadV H v := by
  cases h with
  | s _ => exact .str _
  | i _ => exact .int _
  | b _ => exact .bl _
  | o => exact .non
  | l e _ => exact .lst e
  | t e _ => exact .tup e
  | d e _ => exact .dK e
theorem O.hasT_of {H : Hp} {v : V} {x : O} (h : OAt H v x) : XO.hasT sgs v = headO x := by
  cases h <;> rfl
theorem O.leafV {H : Hp} {v : V} {x : O} (h : OAt H v x) (l : x.leafy = true) : LeafV H v ∧ isWordV v = isWordO x := by
  cases h with
  | s hz => exact ⟨.str _ hz, rfl⟩
  | i _ => exact ⟨.int _, rfl⟩
  | b _ => exact ⟨.bl _, rfl⟩
  | o => exact ⟨.non, rfl⟩
  | l e _ => exact ⟨.lst e, rfl⟩
  | d e _ => exact ⟨.dK e, rfl⟩
  | @t _ p xs ds e hx =>
    refine ⟨?_, rfl⟩
    by_cases c : xs.length = 3
    · match xs, ds, hx, c with
      | [u1, u2, u3], [w1, w2, w3], .cons ha (.cons _ (.cons _ .nil)), _ =>
        refine .odd e (O.headV ha) ?_
        rw [O.hasT_of ha]
        have l' : (!headO w1) = true := l
        cases q : headO w1 with
        | false => rfl
        | true => rw [q] at l'; cases l'
    · exact .tup e c
theorem OK.ov {x : O} {b : Bool} {n : Nat} (k : OK x b n) : ∀ {H : Hp} {v : V}, OAt H v x → OV H v b n := by
  induction k with
  | leaf l =>
    intro H v h
    obtain ⟨a, e⟩ := O.leafV h l
    rw [← e]
    exact .leaf a
  | node _ _ i j =>
    intro H v h
    cases h with
    | t e hx =>
      cases hx with
      | cons h1 r =>
        cases h1
        cases r with
        | cons h2 r =>
          cases r with
          | cons h3 r =>
            cases r
            exact .node e (i h2) (j h3)
theorem OK.word {z : Str} (h : IsW z) : OK (.s z) true 1 := by
  have q := OK.leaf (x := .s z) rfl
  rw [show isWordO (.s z) = true from isWB_of h] at q
  exact q
theorem OK.ty (t : Ty) (h : t.wok) : OK t.ob true t.size := by
  induction t with
  | w z => exact OK.word h
  | n g a b i j =>
    have q := OK.node (g := g) (i h.1) (j h.2)
    rw [Bool.and_self] at q
    have e : a.size + b.size + 1 = (Ty.n g a b).size := by simp only [Ty.size]; omega
    rw [← e]
    exact q
/-- many of them -/
inductive OKs : List O → List Bool → Prop
  | nil : OKs [] []
  | cons {x : O} {b : Bool} {n : Nat} {xs : List O} {bs : List Bool} : OK x b n → n ≤ 1000000 → OKs xs bs → OKs (x :: xs) (b :: bs)
theorem OKs.ovb {xs : List O} {bs : List Bool} (k : OKs xs bs) : ∀ {H : Hp} {vs : List V}, OsAt H vs xs → OVb H vs bs := by
  induction k with
  | nil => intro H vs h; cases h; exact .nil
  | cons a l _ i =>
    intro H vs h
    cases h with
    | cons h1 r => exact .cons (a.ov h1) l (i r)
/-- whether it is a list of types, whether a row -/
inductive RO : O → Bool → Bool → Prop
  | no {x : O} : (∀ xs, x ≠ .l xs) → RO x false false
  | lst {xs : List O} {bs : List Bool} : OKs xs bs → xs.length ≤ 1000 → RO (.l xs) (bs.all id) (bs.all id && decide (0 < xs.length))
theorem O.notL {H : Hp} {v : V} {x : O} (h : OAt H v x) (n : ∀ xs, x ≠ .l xs) : NotL H v := by
  cases h with
  | s _ => exact .str _
  | i _ => exact .int _
  | b _ => exact .bl _
  | o => exact .non
  | l e _ => exact absurd rfl (n _)
  | t e _ => exact .tup e
  | d e _ => exact .dK e
theorem RO.rv {x : O} {a b : Bool} (k : RO x a b) {H : Hp} {v : V} (h : OAt H v x) : RV H v a b := by
  cases k with
  | no n => exact .no (O.notL h n)
  | lst ks l =>
    cases h with
    | l e hx =>
      have el := hx.length
      rw [← el]
      exact .lst e (by omega) (ks.ovb (hx.same rm_sub))
theorem O.notS {H : Hp} {v : V} {x : O} (h : OAt H v x) (n : ∀ z, x ≠ .s z) : NotS H v := by
  cases h with
  | s _ => exact absurd rfl (n _)
  | i _ => exact .int _
  | b _ => exact .bl _
  | o => exact .non
  | l e _ => exact .lst e
  | t e _ => exact .tup e
  | d e _ => exact .dK e
/-! ### expressions that come to such data -/
def Yo (t : TE) (σ : L2.St) (H0 : Hp) (d : O) : Prop := ∀ H, Same H0 H → ∀ Q : VK, (∀ v H', Same H H' → OAt H' v d → Q v H') → t σ H Q
def YoA (t : TA) (σ : L2.St) (H0 : Hp) (ds : List O) : Prop := ∀ H, Same H0 H → ∀ Q : List V → Hp → Prop, (∀ vs H', Same H H' → OsAt H' vs ds → Q vs H') → t σ H Q
theorem yo_var {i : Nat} {σ : L2.St} {H0 : Hp} {v : V} {d : O} (e : σ[i]? = some (some v)) (h : OAt H0 v d) : Yo (tVar i) σ H0 d := fun H s Q q => ⟨v, e, q v H (Same.refl H) (h.same s)⟩
theorem yo_str {σ : L2.St} {H0 : Hp} {z : Str} (ok : z.length ≤ 1000000) : Yo (tC (.str z)) σ H0 (.s z) := fun H _ Q q => q _ H (Same.refl H) (.s ok)
theorem yo_int {σ : L2.St} {H0 : Hp} {n : Int} : Yo (tC (.int n)) σ H0 (.i n) := fun H _ Q q => q _ H (Same.refl H) (.i n)
theorem yo_bl {σ : L2.St} {H0 : Hp} {n : Bool} : Yo (tC (.bl n)) σ H0 (.b n) := fun H _ Q q => q _ H (Same.refl H) (.b n)
theorem yo_non {σ : L2.St} {H0 : Hp} : Yo (tC .non) σ H0 .o := fun H _ Q q => q _ H (Same.refl H) .o
theorem yoa_nil {σ : L2.St} {H0 : Hp} : YoA tNil σ H0 [] := fun H _ Q q => q [] H (Same.refl H) .nil
theorem yoa_cons {t : TE} {tr : TA} {σ : L2.St} {H0 : Hp} {d : O} {ds : List O} (h : Yo t σ H0 d) (hr : YoA tr σ H0 ds) : YoA (tCons t tr) σ H0 (d :: ds) := fun H s Q q =>
  h H s _ fun v H1 s1 hv => hr H1 (s.trans s1) _ fun vs H2 s2 hvs => q (v :: vs) H2 (s1.trans s2) (.cons (hv.same s2) hvs)
theorem yo_tup {t : TA} {σ : L2.St} {H0 : Hp} {ds : List O} (h : YoA t σ H0 ds) (l : ds.length ≤ 100) : Yo (tTup t) σ H0 (.t ds) := fun H s Q q =>
  h H s _ fun vs H1 s1 hvs => ⟨by rw [hvs.length, sizeLine_eq]; omega, fun p np => q _ _ (s1.trans (same_upd np)) (.t upd_same (hvs.same (same_upd np)))⟩
theorem yo_lst {t : TA} {σ : L2.St} {H0 : Hp} {ds : List O} (h : YoA t σ H0 ds) (l : ds.length ≤ 100) : Yo (tLst t) σ H0 (.l ds) := fun H s Q q =>
  h H s _ fun vs H1 s1 hvs => ⟨by rw [hvs.length, sizeLine_eq]; omega, fun p np => q _ _ (s1.trans (same_upd np)) (.l upd_same (hvs.same (rm_new np)))⟩
theorem yo_cat {t u : TE} {σ : L2.St} {H0 : Hp} {ds es : List O} (h : Yo t σ H0 (.l ds)) (h' : Yo u σ H0 (.l es)) (l : ds.length + es.length ≤ 1000) : Yo (tOp rCat t u) σ H0 (.l (ds ++ es)) := fun H s Q q =>
  h H s _ fun a H1 s1 h1 => h' H1 (s.trans s1) _ fun b H2 s2 h2 => by
    cases h1 with
    | @l _ L vs _ e1 d1 =>
      cases h2 with
      | @l _ M us _ e2 d2 =>
        exact ⟨L, M, vs, us, rfl, rfl, s2 _ _ e1, e2, by rw [d1.length, d2.length, sizeLine_eq]; omega, fun p np => q _ _ ((s1.trans s2).trans (same_upd np)) (.l upd_same (((((d1.same rm_sub).same s2).append (d2.same rm_sub))).same (rm_new np)))⟩
theorem yo_d0 {σ : L2.St} {H0 : Hp} : Yo tDNewK σ H0 (.d []) := fun H s Q q p np => q _ _ (same_upd np) (.d upd_same .nil)
theorem yo_d1 {tv : TE} {σ : L2.St} {H0 : Hp} {i : Nat} {z : Str} {d : O} (e : σ[i]? = some (some (.str z))) (lz : z.length ≤ 1000000) (nb : d.box = false) (h : Yo tv σ H0 d) : Yo (tDisp [(tVar i, tv)]) σ H0 (.d [(z, d)]) := fun H s Q q p np =>
  ⟨.str z, e, h _ (s.trans (same_upd np)) _ fun v H1 s1 hv => by
    refine ⟨s1 _ _ upd_same, [(Sum.inr z, v)], rfl, Nat.le_of_ble_eq_true rfl, ?_⟩
    have sH : Same H (upd H1 p (.dK (mergeK [] [(Sum.inr z, v)]))) := same_over ((same_upd np).trans s1) np
    refine q _ _ sH (.d (kvs := [(Sum.inr z, v)]) upd_same (.cons lz ?_ .nil))
    cases hv with
    | s hz => exact .s hz
    | i n => exact .i n
    | b n => exact .b n
    | o => exact .o
    | l _ _ => exact Bool.noConfusion (show true = false from nb)
    | t _ _ => exact Bool.noConfusion (show true = false from nb)
    | d _ _ => exact Bool.noConfusion (show true = false from nb)⟩
abbrev rAddS : R2 := fun x y H Q => ∃ i j, x = .str i ∧ y = .str j ∧ i.length + j.length ≤ sizeLine ∧ Q (.str (i ++ j)) H
theorem yo_add {t u : TE} {σ : L2.St} {H0 : Hp} {x y : Str} (h : Yo t σ H0 (.s x)) (h' : Yo u σ H0 (.s y)) (l : x.length + y.length ≤ 1000000) : Yo (tOp rAddS t u) σ H0 (.s (x ++ y)) := fun H s Q q =>
  h H s _ fun _ H1 s1 h1 => h' H1 (s.trans s1) _ fun _ H2 s2 h2 => by
    cases h1
    cases h2
    exact ⟨x, y, rfl, rfl, by rw [sizeLine_eq]; omega, q _ _ (s1.trans s2) (.s (by rw [str_len_app]; exact l))⟩
theorem yo_set {te : TE} {i : Nat} {u : TS} {D0 : Ends} {σ : L2.St} {H H0 : Hp} {d : O} (y : Yo te σ H0 d) (s : Same H0 H) (q : ∀ v H', Same H H' → OAt H' v d → u D0 (σ.set i (some v)) H') : tSeq (tAsg te (gName i)) u D0 σ H := y H s _ fun v H' s' h => q v H' s' h
theorem yo_ret {te : TE} {D0 : Ends} {σ : L2.St} {H H0 : Hp} {d : O} (y : Yo te σ H0 d) (s : Same H0 H) (q : ∀ v H', Same H H' → OAt H' v d → D0.rt v H') : tRet te D0 σ H := y H s _ fun v H' s' h => q v H' s' h
end V2

namespace V2
open PySem PySem.Spec PyProof.Rows L2 KT LamX
open PySem.W (Frag)
/-! ### the law's odd things -/
def oddK (w : Str) : List O := (((((([.o, (.i 0), (.b true), (.s ""), (.s "A"), (.s "abcdefghi"), (.s (w ++ " ")), (.s (w ++ "\n"))] ++ [(.s "a1"), (.l []), (.d []), (.t []), (.t [(.s w)]), (.l [(.s w)]), (.t [(.s "over"), (.s w)]), (.t [(.s "over"), (.s w), (.s w), (.s w)])]) ++ [(.l [(.s "over"), (.s w), (.s w)]), (.t [(.s "Over"), (.s w), (.s w)]), (.t [(.s "above"), (.s w), (.s w)])]) ++ [(.t [.o, (.s w), (.s w)]), (.t [(.l []), (.s w), (.s w)]), (.t [(.d []), (.s w), (.s w)])]) ++ [(.t [(.s "over"), (.s w), .o]), (.t [(.s "over"), (.s ""), (.s w)])]) ++ [(.t [(.s "under"), (.s w), (.l [(.s w)])]), (.t [(.t [(.s "over"), (.s w), (.s w)]), (.s w), (.s w)]), (.t [(.s "then"), (.s w), (.t [(.s "under"), (.s w)])])]) ++ [(.t [(.s "then"), (.t [(.s "over"), (.s w), (.i 5)]), (.s w)]), (.t [(.s "over"), (.s w), (.s (w ++ " "))]), (.d [(w, (.s w))]), (.t [(.s "word"), (.s w), (.s w)]), (.t [(.s "a"), (.s "over"), (.s w)])])
def oddR (w : Str) : List O := (([.o, (.i 0), (.b true), (.s ""), (.s w), (.t []), (.d [])] ++ [(.t [(.s w)]), (.d [(w, (.s w))]), (.l [.o]), (.l [(.s w), .o]), (.l [.o, (.s w)]), (.l [(.l [(.s w)])]), (.l [(.s w), (.s "")]), (.l [(.s w), (.s "A"), (.s w)])]) ++ [(.l [(.t [(.s "over"), (.s w)])]), (.l [(.t [(.s "over"), (.s w), (.s w)]), (.s w), (.i 5)]), (.l [(.s w), (.l [(.s w)])]), (.l [(.t [])]), (.l [(.l [])]), (.l [(.d [])]), (.l [(.s w), (.t [(.s "above"), (.s w), (.s w)])])])
section
variable {P : Program} {w_ : World} {K : Frag} {mg : Str → Option Value} {base : Heap}
def spLOddKinds : Sp := fun vs H Q _ => ∃ w : Str, vs = [.str w] ∧ IsW w ∧ ∀ v H', Same H H' → OAt H' v (.l (oddK w)) → Q v H'
theorem ok_lOddKinds {f : Addr} {fd : FuncData} (T : Top K mg "_law_odd_kinds" sLOddKinds pLOddKinds f fd) : FnOk P w_ K mg base CX0 1 f fd pLOddKinds spLOddKinds := by
  refine T.F.ok scLOddKinds (fun vs H Q E h => ?_) (fun cdv A outer s H vs Q E hr h => ?_)
  · obtain ⟨_, rfl, _⟩ := h
    rfl
  · obtain ⟨w, rfl, hW, k⟩ := h
    have hw8 := hW.2.1
    have hw : w.length ≤ 1000000 := by omega
    refine ⟨_, (pss_cons (ps_set (i := 1) scLOddKinds.nd rfl (Or.inl rfl) (pe_lst (pa_cons pe_non (pa_cons pe_int (pa_cons pe_bl (pa_cons pe_str (pa_cons pe_str (pa_cons pe_str (pa_cons (pe_op op_add_str (pv 0) pe_str) (pa_cons (pe_op op_add_str (pv 0) pe_str) pa_nil))))))))))
      (pss_cons (ps_set (i := 1) scLOddKinds.nd rfl (Or.inl rfl) (pe_op op_cat (pv 1) (pe_lst (pa_cons pe_str (pa_cons (pe_lst pa_nil) (pa_cons pe_dnewK (pa_cons (pe_tup pa_nil) (pa_cons (pe_tup (pa_cons (pv 0) pa_nil)) (pa_cons (pe_lst (pa_cons (pv 0) pa_nil)) (pa_cons (pe_tup (pa_cons pe_str (pa_cons (pv 0) pa_nil))) (pa_cons (pe_tup (pa_cons pe_str (pa_cons (pv 0) (pa_cons (pv 0) (pa_cons (pv 0) pa_nil))))) pa_nil)))))))))))
      (pss_cons (ps_set (i := 1) scLOddKinds.nd rfl (Or.inl rfl) (pe_op op_cat (pv 1) (pe_lst (pa_cons (pe_lst (pa_cons pe_str (pa_cons (pv 0) (pa_cons (pv 0) pa_nil)))) (pa_cons (pe_tup (pa_cons pe_str (pa_cons (pv 0) (pa_cons (pv 0) pa_nil)))) (pa_cons (pe_tup (pa_cons pe_str (pa_cons (pv 0) (pa_cons (pv 0) pa_nil)))) pa_nil))))))
      (pss_cons (ps_set (i := 1) scLOddKinds.nd rfl (Or.inl rfl) (pe_op op_cat (pv 1) (pe_lst (pa_cons (pe_tup (pa_cons pe_non (pa_cons (pv 0) (pa_cons (pv 0) pa_nil)))) (pa_cons (pe_tup (pa_cons (pe_lst pa_nil) (pa_cons (pv 0) (pa_cons (pv 0) pa_nil)))) (pa_cons (pe_tup (pa_cons pe_dnewK (pa_cons (pv 0) (pa_cons (pv 0) pa_nil)))) pa_nil))))))
      (pss_cons (ps_set (i := 1) scLOddKinds.nd rfl (Or.inl rfl) (pe_op op_cat (pv 1) (pe_lst (pa_cons (pe_tup (pa_cons pe_str (pa_cons (pv 0) (pa_cons pe_non pa_nil)))) (pa_cons (pe_tup (pa_cons pe_str (pa_cons pe_str (pa_cons (pv 0) pa_nil)))) pa_nil)))))
      (pss_cons (ps_set (i := 1) scLOddKinds.nd rfl (Or.inl rfl) (pe_op op_cat (pv 1) (pe_lst (pa_cons (pe_tup (pa_cons pe_str (pa_cons (pv 0) (pa_cons (pe_lst (pa_cons (pv 0) pa_nil)) pa_nil)))) (pa_cons (pe_tup (pa_cons (pe_tup (pa_cons pe_str (pa_cons (pv 0) (pa_cons (pv 0) pa_nil)))) (pa_cons (pv 0) (pa_cons (pv 0) pa_nil)))) (pa_cons (pe_tup (pa_cons pe_str (pa_cons (pv 0) (pa_cons (pe_tup (pa_cons pe_str (pa_cons (pv 0) pa_nil))) pa_nil)))) pa_nil))))))
      (pss_one (ps_ret (pe_op op_cat (pv 1) (pe_lst (pa_cons (pe_tup (pa_cons pe_str (pa_cons (pe_tup (pa_cons pe_str (pa_cons (pv 0) (pa_cons pe_int pa_nil)))) (pa_cons (pv 0) pa_nil)))) (pa_cons (pe_tup (pa_cons pe_str (pa_cons (pv 0) (pa_cons (pe_op op_add_str (pv 0) pe_str) pa_nil)))) (pa_cons (pe_disp (pps_cons (pv 0) (pv 0) pps_nil) (by rfl) (by rfl) (by simp) (by decide)) (pa_cons (pe_tup (pa_cons pe_str (pa_cons (pv 0) (pa_cons (pv 0) pa_nil)))) (pa_cons (pe_tup (pa_cons pe_str (pa_cons pe_str (pa_cons (pv 0) pa_nil)))) pa_nil))))))))))))))), ?_⟩
    refine yo_set (yo_lst (yoa_cons yo_non (yoa_cons yo_int (yoa_cons yo_bl (yoa_cons (yo_str (Nat.le_of_ble_eq_true rfl)) (yoa_cons (yo_str (Nat.le_of_ble_eq_true rfl)) (yoa_cons (yo_str (Nat.le_of_ble_eq_true rfl)) (yoa_cons (yo_add (yo_var rfl (.s hw)) (yo_str (Nat.le_of_ble_eq_true rfl)) (by have e : (" " : Str).length = 1 := (by decide +kernel); have := hw8; omega)) (yoa_cons (yo_add (yo_var rfl (.s hw)) (yo_str (Nat.le_of_ble_eq_true rfl)) (by have e : ("\n" : Str).length = 1 := (by decide +kernel); have := hw8; omega)) yoa_nil)))))))) (Nat.le_of_ble_eq_true rfl)) (Same.refl _) fun v1 H1 s1 h1 => ?_
    refine yo_set (yo_cat (yo_var rfl h1) (yo_lst (yoa_cons (yo_str (Nat.le_of_ble_eq_true rfl)) (yoa_cons (yo_lst yoa_nil (Nat.le_of_ble_eq_true rfl)) (yoa_cons yo_d0 (yoa_cons (yo_tup yoa_nil (Nat.le_of_ble_eq_true rfl)) (yoa_cons (yo_tup (yoa_cons (yo_var rfl (.s hw)) yoa_nil) (Nat.le_of_ble_eq_true rfl)) (yoa_cons (yo_lst (yoa_cons (yo_var rfl (.s hw)) yoa_nil) (Nat.le_of_ble_eq_true rfl)) (yoa_cons (yo_tup (yoa_cons (yo_str (Nat.le_of_ble_eq_true rfl)) (yoa_cons (yo_var rfl (.s hw)) yoa_nil)) (Nat.le_of_ble_eq_true rfl)) (yoa_cons (yo_tup (yoa_cons (yo_str (Nat.le_of_ble_eq_true rfl)) (yoa_cons (yo_var rfl (.s hw)) (yoa_cons (yo_var rfl (.s hw)) (yoa_cons (yo_var rfl (.s hw)) yoa_nil)))) (Nat.le_of_ble_eq_true rfl)) yoa_nil)))))))) (Nat.le_of_ble_eq_true rfl)) (Nat.le_of_ble_eq_true rfl)) (Same.refl _) fun v2 H2 s2 h2 => ?_
    refine yo_set (yo_cat (yo_var rfl h2) (yo_lst (yoa_cons (yo_lst (yoa_cons (yo_str (Nat.le_of_ble_eq_true rfl)) (yoa_cons (yo_var rfl (.s hw)) (yoa_cons (yo_var rfl (.s hw)) yoa_nil))) (Nat.le_of_ble_eq_true rfl)) (yoa_cons (yo_tup (yoa_cons (yo_str (Nat.le_of_ble_eq_true rfl)) (yoa_cons (yo_var rfl (.s hw)) (yoa_cons (yo_var rfl (.s hw)) yoa_nil))) (Nat.le_of_ble_eq_true rfl)) (yoa_cons (yo_tup (yoa_cons (yo_str (Nat.le_of_ble_eq_true rfl)) (yoa_cons (yo_var rfl (.s hw)) (yoa_cons (yo_var rfl (.s hw)) yoa_nil))) (Nat.le_of_ble_eq_true rfl)) yoa_nil))) (Nat.le_of_ble_eq_true rfl)) (Nat.le_of_ble_eq_true rfl)) (Same.refl _) fun v3 H3 s3 h3 => ?_
    refine yo_set (yo_cat (yo_var rfl h3) (yo_lst (yoa_cons (yo_tup (yoa_cons yo_non (yoa_cons (yo_var rfl (.s hw)) (yoa_cons (yo_var rfl (.s hw)) yoa_nil))) (Nat.le_of_ble_eq_true rfl)) (yoa_cons (yo_tup (yoa_cons (yo_lst yoa_nil (Nat.le_of_ble_eq_true rfl)) (yoa_cons (yo_var rfl (.s hw)) (yoa_cons (yo_var rfl (.s hw)) yoa_nil))) (Nat.le_of_ble_eq_true rfl)) (yoa_cons (yo_tup (yoa_cons yo_d0 (yoa_cons (yo_var rfl (.s hw)) (yoa_cons (yo_var rfl (.s hw)) yoa_nil))) (Nat.le_of_ble_eq_true rfl)) yoa_nil))) (Nat.le_of_ble_eq_true rfl)) (Nat.le_of_ble_eq_true rfl)) (Same.refl _) fun v4 H4 s4 h4 => ?_
    refine yo_set (yo_cat (yo_var rfl h4) (yo_lst (yoa_cons (yo_tup (yoa_cons (yo_str (Nat.le_of_ble_eq_true rfl)) (yoa_cons (yo_var rfl (.s hw)) (yoa_cons yo_non yoa_nil))) (Nat.le_of_ble_eq_true rfl)) (yoa_cons (yo_tup (yoa_cons (yo_str (Nat.le_of_ble_eq_true rfl)) (yoa_cons (yo_str (Nat.le_of_ble_eq_true rfl)) (yoa_cons (yo_var rfl (.s hw)) yoa_nil))) (Nat.le_of_ble_eq_true rfl)) yoa_nil)) (Nat.le_of_ble_eq_true rfl)) (Nat.le_of_ble_eq_true rfl)) (Same.refl _) fun v5 H5 s5 h5 => ?_
    refine yo_set (yo_cat (yo_var rfl h5) (yo_lst (yoa_cons (yo_tup (yoa_cons (yo_str (Nat.le_of_ble_eq_true rfl)) (yoa_cons (yo_var rfl (.s hw)) (yoa_cons (yo_lst (yoa_cons (yo_var rfl (.s hw)) yoa_nil) (Nat.le_of_ble_eq_true rfl)) yoa_nil))) (Nat.le_of_ble_eq_true rfl)) (yoa_cons (yo_tup (yoa_cons (yo_tup (yoa_cons (yo_str (Nat.le_of_ble_eq_true rfl)) (yoa_cons (yo_var rfl (.s hw)) (yoa_cons (yo_var rfl (.s hw)) yoa_nil))) (Nat.le_of_ble_eq_true rfl)) (yoa_cons (yo_var rfl (.s hw)) (yoa_cons (yo_var rfl (.s hw)) yoa_nil))) (Nat.le_of_ble_eq_true rfl)) (yoa_cons (yo_tup (yoa_cons (yo_str (Nat.le_of_ble_eq_true rfl)) (yoa_cons (yo_var rfl (.s hw)) (yoa_cons (yo_tup (yoa_cons (yo_str (Nat.le_of_ble_eq_true rfl)) (yoa_cons (yo_var rfl (.s hw)) yoa_nil)) (Nat.le_of_ble_eq_true rfl)) yoa_nil))) (Nat.le_of_ble_eq_true rfl)) yoa_nil))) (Nat.le_of_ble_eq_true rfl)) (Nat.le_of_ble_eq_true rfl)) (Same.refl _) fun v6 H6 s6 h6 => ?_
    exact yo_ret (yo_cat (yo_var rfl h6) (yo_lst (yoa_cons (yo_tup (yoa_cons (yo_str (Nat.le_of_ble_eq_true rfl)) (yoa_cons (yo_tup (yoa_cons (yo_str (Nat.le_of_ble_eq_true rfl)) (yoa_cons (yo_var rfl (.s hw)) (yoa_cons yo_int yoa_nil))) (Nat.le_of_ble_eq_true rfl)) (yoa_cons (yo_var rfl (.s hw)) yoa_nil))) (Nat.le_of_ble_eq_true rfl)) (yoa_cons (yo_tup (yoa_cons (yo_str (Nat.le_of_ble_eq_true rfl)) (yoa_cons (yo_var rfl (.s hw)) (yoa_cons (yo_add (yo_var rfl (.s hw)) (yo_str (Nat.le_of_ble_eq_true rfl)) (by have e : (" " : Str).length = 1 := (by decide +kernel); have := hw8; omega)) yoa_nil))) (Nat.le_of_ble_eq_true rfl)) (yoa_cons (yo_d1 rfl hw rfl (yo_var rfl (.s hw))) (yoa_cons (yo_tup (yoa_cons (yo_str (Nat.le_of_ble_eq_true rfl)) (yoa_cons (yo_var rfl (.s hw)) (yoa_cons (yo_var rfl (.s hw)) yoa_nil))) (Nat.le_of_ble_eq_true rfl)) (yoa_cons (yo_tup (yoa_cons (yo_str (Nat.le_of_ble_eq_true rfl)) (yoa_cons (yo_str (Nat.le_of_ble_eq_true rfl)) (yoa_cons (yo_var rfl (.s hw)) yoa_nil))) (Nat.le_of_ble_eq_true rfl)) yoa_nil))))) (Nat.le_of_ble_eq_true rfl)) (Nat.le_of_ble_eq_true rfl)) (Same.refl _) fun v H s h => k v H ((((((s1.trans s2).trans s3).trans s4).trans s5).trans s6).trans s) h
def spLOddRows : Sp := fun vs H Q _ => ∃ w : Str, vs = [.str w] ∧ IsW w ∧ ∀ v H', Same H H' → OAt H' v (.l (oddR w)) → Q v H'
theorem ok_lOddRows {f : Addr} {fd : FuncData} (T : Top K mg "_law_odd_rows" sLOddRows pLOddRows f fd) : FnOk P w_ K mg base CX0 1 f fd pLOddRows spLOddRows := by
  refine T.F.ok scLOddRows (fun vs H Q E h => ?_) (fun cdv A outer s H vs Q E hr h => ?_)
  · obtain ⟨_, rfl, _⟩ := h
    rfl
  · obtain ⟨w, rfl, hW, k⟩ := h
    have hw8 := hW.2.1
    have hw : w.length ≤ 1000000 := by omega
    refine ⟨_, (pss_cons (ps_set (i := 1) scLOddRows.nd rfl (Or.inl rfl) (pe_lst (pa_cons pe_non (pa_cons pe_int (pa_cons pe_bl (pa_cons pe_str (pa_cons (pv 0) (pa_cons (pe_tup pa_nil) (pa_cons pe_dnewK pa_nil)))))))))
      (pss_cons (ps_set (i := 1) scLOddRows.nd rfl (Or.inl rfl) (pe_op op_cat (pv 1) (pe_lst (pa_cons (pe_tup (pa_cons (pv 0) pa_nil)) (pa_cons (pe_disp (pps_cons (pv 0) (pv 0) pps_nil) (by rfl) (by rfl) (by simp) (by decide)) (pa_cons (pe_lst (pa_cons pe_non pa_nil)) (pa_cons (pe_lst (pa_cons (pv 0) (pa_cons pe_non pa_nil))) (pa_cons (pe_lst (pa_cons pe_non (pa_cons (pv 0) pa_nil))) (pa_cons (pe_lst (pa_cons (pe_lst (pa_cons (pv 0) pa_nil)) pa_nil)) (pa_cons (pe_lst (pa_cons (pv 0) (pa_cons pe_str pa_nil))) (pa_cons (pe_lst (pa_cons (pv 0) (pa_cons pe_str (pa_cons (pv 0) pa_nil)))) pa_nil)))))))))))
      (pss_one (ps_ret (pe_op op_cat (pv 1) (pe_lst (pa_cons (pe_lst (pa_cons (pe_tup (pa_cons pe_str (pa_cons (pv 0) pa_nil))) pa_nil)) (pa_cons (pe_lst (pa_cons (pe_tup (pa_cons pe_str (pa_cons (pv 0) (pa_cons (pv 0) pa_nil)))) (pa_cons (pv 0) (pa_cons pe_int pa_nil)))) (pa_cons (pe_lst (pa_cons (pv 0) (pa_cons (pe_lst (pa_cons (pv 0) pa_nil)) pa_nil))) (pa_cons (pe_lst (pa_cons (pe_tup pa_nil) pa_nil)) (pa_cons (pe_lst (pa_cons (pe_lst pa_nil) pa_nil)) (pa_cons (pe_lst (pa_cons pe_dnewK pa_nil)) (pa_cons (pe_lst (pa_cons (pv 0) (pa_cons (pe_tup (pa_cons pe_str (pa_cons (pv 0) (pa_cons (pv 0) pa_nil)))) pa_nil))) pa_nil))))))))))))), ?_⟩
    refine yo_set (yo_lst (yoa_cons yo_non (yoa_cons yo_int (yoa_cons yo_bl (yoa_cons (yo_str (Nat.le_of_ble_eq_true rfl)) (yoa_cons (yo_var rfl (.s hw)) (yoa_cons (yo_tup yoa_nil (Nat.le_of_ble_eq_true rfl)) (yoa_cons yo_d0 yoa_nil))))))) (Nat.le_of_ble_eq_true rfl)) (Same.refl _) fun v1 H1 s1 h1 => ?_
    refine yo_set (yo_cat (yo_var rfl h1) (yo_lst (yoa_cons (yo_tup (yoa_cons (yo_var rfl (.s hw)) yoa_nil) (Nat.le_of_ble_eq_true rfl)) (yoa_cons (yo_d1 rfl hw rfl (yo_var rfl (.s hw))) (yoa_cons (yo_lst (yoa_cons yo_non yoa_nil) (Nat.le_of_ble_eq_true rfl)) (yoa_cons (yo_lst (yoa_cons (yo_var rfl (.s hw)) (yoa_cons yo_non yoa_nil)) (Nat.le_of_ble_eq_true rfl)) (yoa_cons (yo_lst (yoa_cons yo_non (yoa_cons (yo_var rfl (.s hw)) yoa_nil)) (Nat.le_of_ble_eq_true rfl)) (yoa_cons (yo_lst (yoa_cons (yo_lst (yoa_cons (yo_var rfl (.s hw)) yoa_nil) (Nat.le_of_ble_eq_true rfl)) yoa_nil) (Nat.le_of_ble_eq_true rfl)) (yoa_cons (yo_lst (yoa_cons (yo_var rfl (.s hw)) (yoa_cons (yo_str (Nat.le_of_ble_eq_true rfl)) yoa_nil)) (Nat.le_of_ble_eq_true rfl)) (yoa_cons (yo_lst (yoa_cons (yo_var rfl (.s hw)) (yoa_cons (yo_str (Nat.le_of_ble_eq_true rfl)) (yoa_cons (yo_var rfl (.s hw)) yoa_nil))) (Nat.le_of_ble_eq_true rfl)) yoa_nil)))))))) (Nat.le_of_ble_eq_true rfl)) (Nat.le_of_ble_eq_true rfl)) (Same.refl _) fun v2 H2 s2 h2 => ?_
    exact yo_ret (yo_cat (yo_var rfl h2) (yo_lst (yoa_cons (yo_lst (yoa_cons (yo_tup (yoa_cons (yo_str (Nat.le_of_ble_eq_true rfl)) (yoa_cons (yo_var rfl (.s hw)) yoa_nil)) (Nat.le_of_ble_eq_true rfl)) yoa_nil) (Nat.le_of_ble_eq_true rfl)) (yoa_cons (yo_lst (yoa_cons (yo_tup (yoa_cons (yo_str (Nat.le_of_ble_eq_true rfl)) (yoa_cons (yo_var rfl (.s hw)) (yoa_cons (yo_var rfl (.s hw)) yoa_nil))) (Nat.le_of_ble_eq_true rfl)) (yoa_cons (yo_var rfl (.s hw)) (yoa_cons yo_int yoa_nil))) (Nat.le_of_ble_eq_true rfl)) (yoa_cons (yo_lst (yoa_cons (yo_var rfl (.s hw)) (yoa_cons (yo_lst (yoa_cons (yo_var rfl (.s hw)) yoa_nil) (Nat.le_of_ble_eq_true rfl)) yoa_nil)) (Nat.le_of_ble_eq_true rfl)) (yoa_cons (yo_lst (yoa_cons (yo_tup yoa_nil (Nat.le_of_ble_eq_true rfl)) yoa_nil) (Nat.le_of_ble_eq_true rfl)) (yoa_cons (yo_lst (yoa_cons (yo_lst yoa_nil (Nat.le_of_ble_eq_true rfl)) yoa_nil) (Nat.le_of_ble_eq_true rfl)) (yoa_cons (yo_lst (yoa_cons yo_d0 yoa_nil) (Nat.le_of_ble_eq_true rfl)) (yoa_cons (yo_lst (yoa_cons (yo_var rfl (.s hw)) (yoa_cons (yo_tup (yoa_cons (yo_str (Nat.le_of_ble_eq_true rfl)) (yoa_cons (yo_var rfl (.s hw)) (yoa_cons (yo_var rfl (.s hw)) yoa_nil))) (Nat.le_of_ble_eq_true rfl)) yoa_nil)) (Nat.le_of_ble_eq_true rfl)) yoa_nil))))))) (Nat.le_of_ble_eq_true rfl)) (Nat.le_of_ble_eq_true rfl)) (Same.refl _) fun v H s h => k v H ((s1.trans s2).trans s) h
end
end V2

namespace V2
open PySem PySem.Spec PyProof.Rows L2 KT LamX
open PySem.W (Frag)
/-! ### the odd things are no types, no rows -/
def inS (g : Str) : Bool := decide (g ∈ sgs)
def kdO : Nat → O → Bool
  | f + 1, .t [.s g, x, y] => inS g && (kdO f x && kdO f y)
  | _, x => isWordO x
theorem inS_sg {g : Str} (h : inS g = true) : ∃ s : Sg, g = s.str := by
  have m := of_decide_eq_true h
  simp only [sgs, List.mem_cons, List.not_mem_nil, or_false] at m
  rcases m with rfl | rfl | rfl
  · exact ⟨.ov, rfl⟩
  · exact ⟨.th, rfl⟩
  · exact ⟨.un, rfl⟩
theorem kdO_ok : ∀ (f : Nat) (x : O), x.dep ≤ f → ∃ n, n + 1 ≤ 2 ^ (f + 1) ∧ OK x (kdO f x) n := by
  intro f
  induction f with
  | zero =>
    intro x h
    refine ⟨1, by decide, ?_⟩
    have e : kdO 0 x = isWordO x := by cases x <;> rfl
    rw [e]
    refine .leaf ?_
    cases x with
    | t xs => simp [O.dep] at h
    | _ => rfl
  | succ f ih =>
    intro x h
    have p2 : 2 ^ (f + 1 + 1) = 2 ^ (f + 1) + 2 ^ (f + 1) := by rw [Nat.pow_succ]; omega
    have leaf : x.leafy = true → kdO (f + 1) x = isWordO x → ∃ n, n + 1 ≤ 2 ^ (f + 1 + 1) ∧ OK x (kdO (f + 1) x) n := fun l e => by
      refine ⟨1, ?_, ?_⟩
      · have : 1 ≤ 2 ^ (f + 1) := Nat.one_le_two_pow
        omega
      · rw [e]; exact .leaf l
    cases x with
    | t xs =>
      match xs, h, leaf with
      | [.s g, a1, a2], h, leaf =>
        cases c : inS g with
        | false =>
          have e : kdO (f + 1) (.t [.s g, a1, a2]) = false := by show (inS g && _) = false; rw [c]; rfl
          refine leaf ?_ e
          show (!headO (.s g)) = true
          have : headO (.s g) = inS g := rfl
          rw [this, c]
          rfl
        | true =>
          obtain ⟨sg, rfl⟩ := inS_sg c
          have hd : a1.dep ≤ f ∧ a2.dep ≤ f := by
            simp only [O.dep, odepAll] at h
            omega
          obtain ⟨n, hn, k1⟩ := ih a1 hd.1
          obtain ⟨m, hm, k2⟩ := ih a2 hd.2
          refine ⟨n + m + 1, by omega, ?_⟩
          have e : kdO (f + 1) (.t [.s sg.str, a1, a2]) = (kdO f a1 && kdO f a2) := by
            show (inS sg.str && _) = _
            rw [c, Bool.true_and]
          rw [e]
          exact .node k1 k2
      | [], h, leaf => exact leaf rfl rfl
      | [a1], h, leaf => exact leaf rfl (by cases a1 <;> rfl)
      | [a1, a2], h, leaf => exact leaf rfl (by cases a1 <;> rfl)
      | [.i _, _, _], h, leaf => exact leaf rfl rfl
      | [.b _, _, _], h, leaf => exact leaf rfl rfl
      | [.o, _, _], h, leaf => exact leaf rfl rfl
      | [.l _, _, _], h, leaf => exact leaf rfl rfl
      | [.t _, _, _], h, leaf => exact leaf rfl rfl
      | [.d _, _, _], h, leaf => exact leaf rfl rfl
      | a1 :: _ :: _ :: _ :: _, h, leaf => exact leaf rfl (by cases a1 <;> rfl)
    | _ => exact leaf rfl rfl
/-- no key is LATER -/
def O.nl : O → Bool
  | .d ks => decide (ks.length ≤ 900) && decide (("LATER" : Str) ∉ ks.map (·.1))
  | .l xs => decide (xs.length ≤ 900)
  | _ => true
/-- an odd thing that may be handed to _law_very -/
def O.fine (x : O) : Bool := x.wf && decide (x.dep ≤ 8) && x.nl
theorem wb_lit : isWB "" = false ∧ isWB "A" = false ∧ isWB "abcdefghi" = false ∧ isWB "a1" = false := by decide +kernel
theorem wb_end {z : Str} {c : Nat} (h : ¬ (97 ≤ c ∧ c ≤ 122)) : isWB (z ++ ch c) = false := by
  cases e : isWB (z ++ ch c) with
  | false => rfl
  | true =>
    have w := isWB_ok e
    have m : c ∈ (z ++ ch c).cps.toList := by rw [cps_app]; simp [ch_l]
    exact absurd (w.2.2 c m) h
theorem wb_sp {z : Str} : isWB (z ++ " ") = false := wb_end (c := 32) (by omega)
theorem wb_nl {z : Str} : isWB (z ++ "\n") = false := wb_end (c := 10) (by omega)
theorem later_no {w : Str} (h : IsW w) : ("LATER" : Str) ≠ w := fun e => by
  have q := h.2.2 76 (by rw [← e]; decide +kernel)
  omega
theorem inS_lit : inS "over" = true ∧ inS "under" = true ∧ inS "then" = true ∧ inS "Over" = false ∧ inS "above" = false ∧ inS "word" = false ∧ inS "a" = false := by decide +kernel
theorem oddK_no {w : Str} (h : IsW w) : ∀ x ∈ oddK w, kdO 3 x = false ∧ x.dep ≤ 3 ∧ x.fine = true := by
  have e0 : isWB w = true := isWB_of h
  obtain ⟨b1, b2, b3, b4⟩ := wb_lit
  obtain ⟨i1, i2, i3, i4, i5, i6, i7⟩ := inS_lit
  have nl := later_no h
  intro x hx
  simp only [oddK, List.append_assoc, List.cons_append, List.nil_append, List.mem_cons, List.not_mem_nil, or_false] at hx
  rcases hx with rfl | rfl | rfl | rfl | rfl | rfl | rfl | rfl | rfl | rfl | rfl | rfl | rfl | rfl | rfl | rfl | rfl | rfl | rfl | rfl | rfl | rfl | rfl | rfl | rfl | rfl | rfl | rfl | rfl | rfl | rfl | rfl <;>
    (refine ⟨?_, ?_, ?_⟩ <;> simp [kdO, isWordO, e0, b1, b2, b3, b4, i1, i2, i3, i4, i5, i6, i7, wb_sp, wb_nl, O.dep, odepAll, odepKs, O.fine, O.wf, owfAll, owfKs, O.nl, nl])
/-- whether it is a list of types; a row -/
def rowO (f : Nat) : O → Bool
  | .l xs => !xs.isEmpty && xs.all (kdO f)
  | _ => false
theorem oks_of (f : Nat) : ∀ (xs : List O), odepAll xs ≤ f → f ≤ 10 → OKs xs (xs.map (kdO f))
  | [], _, _ => .nil
  | x :: r, h, hf => by
    simp only [odepAll] at h
    obtain ⟨n, hn, k⟩ := kdO_ok f x (by omega)
    have : 2 ^ (f + 1) ≤ 2 ^ 11 := Nat.pow_le_pow_right (by decide) (by omega)
    exact .cons k (by omega) (oks_of f r (by omega) hf)
theorem rowO_ok (f : Nat) (hf : f ≤ 10) (x : O) (h : x.dep ≤ f + 1) (hw : x.wf = true) : ∃ a, RO x a (rowO f x) := by
  cases x with
  | l xs =>
    have hd : odepAll xs ≤ f := by simp only [O.dep] at h; omega
    rw [O.wf] at hw
    have q := RO.lst (oks_of f xs hd hf) (of_decide_eq_true (Bool.and_eq_true_iff.mp hw).1)
    refine ⟨(xs.map (kdO f)).all id, ?_⟩
    have e : rowO f (.l xs) = ((xs.map (kdO f)).all id && decide (0 < xs.length)) := by
      show (!xs.isEmpty && xs.all (kdO f)) = _
      rw [List.all_map]
      cases xs with
      | nil => rfl
      | cons a r => simp [Function.comp_def]
    rw [e]
    exact q
  | _ => exact ⟨false, .no (fun _ z => by cases z)⟩
theorem oddR_no {w : Str} (h : IsW w) : ∀ x ∈ oddR w ++ [.l []], rowO 3 x = false ∧ x.dep ≤ 4 ∧ x.fine = true := by
  have e0 : isWB w = true := isWB_of h
  obtain ⟨b1, b2, b3, b4⟩ := wb_lit
  obtain ⟨i1, i2, i3, i4, i5, i6, i7⟩ := inS_lit
  have nl := later_no h
  intro x hx
  simp only [oddR, List.append_assoc, List.cons_append, List.nil_append, List.mem_cons, List.not_mem_nil, or_false] at hx
  rcases hx with rfl | rfl | rfl | rfl | rfl | rfl | rfl | rfl | rfl | rfl | rfl | rfl | rfl | rfl | rfl | rfl | rfl | rfl | rfl | rfl | rfl | rfl | rfl <;>
    (refine ⟨?_, ?_, ?_⟩ <;> simp [rowO, kdO, isWordO, e0, b1, b2, b3, b4, i1, i2, i3, i4, i5, i6, i7, wb_sp, wb_nl, O.dep, odepAll, odepKs, O.fine, O.wf, owfAll, owfKs, O.nl, nl])
end V2

namespace V2
open PySem PySem.Spec PyProof.Rows L2 NdefX LamX KT
open PySem.W (Frag)
/-! ### what the law tells of a call -/
inductive Er
  | kind
  | row
  | paper
deriving DecidableEq
def Er.nm : Er → Str
  | .kind => "kind"
  | .row => "row"
  | .paper => "paper"
def Er.at_ (CK CR CP : Addr) : Er → Addr
  | .kind => CK
  | .row => CR
  | .paper => CP
/-- what the classes of errors are to one another -/
structure Ecs (K : Frag) (mg : Str → Option Value) (CK CR CP BP : Addr) : Prop where
  m : ∀ x y : Er, PySem.W.exmOne K (.ref (x.at_ CK CR CP)) (.ref (y.at_ CK CR CP)) = some (decide (x = y))
  x : ∀ x : Er, XfC K (x.at_ CK CR CP) ∧ ExcC K (x.at_ CK CR CP) ∧ PySem.W.findIn K (.ref (x.at_ CK CR CP)) "value" = some none
  p : ∀ x : Er, PySem.W.kitOne K (.ref (x.at_ CK CR CP)) (.ref BP) = some true
  v : ∀ x : Er, PySem.W.kitOne K (.ref (x.at_ CK CR CP)) (.type "ValueError") = some true
  g : mg "PhraseError" = some (.ref BP)
  b : mg "ValueError" = none
section
variable {P : Program} {w : World} {K : Frag} {mg : Str → Option Value} {base : Heap} {T : List (Addr × Str)} {CK CR CP BP fI1 fI2 fI3 : Addr}
abbrev tValK2 (K : Frag) (i : Nat) : TE := fun σ H Q => tVar i σ H fun x H1 => ∃ (C e : Addr) (v : V), x = .ref e ∧ XN.KErr H1 C e v ∧ XfC K C ∧ PySem.W.findIn K (.ref C) "value" = some none ∧ Q v H1
/-- how a way ends at a thing -/
def Ends1 (CK CR CP : Addr) (T : List (Addr × Str)) (wy : Wy) (v : V) (H : Hp) (er : Option Er) : Prop := ∀ (Q : VK) (E : XK), (er = none → ∀ u H', ExtN H H' → Tabs T H' → Q u H') →
  (∀ x, er = some x → ∀ d H', ExtN H H' → Tabs T H' → H' d = none → E (.ref (x.at_ CK CR CP)) (some d) (upd H' d (XN.vdict v))) → inner CK CR CP T wy [v] H Q E
def spLTold (CK CR CP : Addr) (T : List (Addr × Str)) : Sp := fun vs H Q _ => ∃ (wy : Wy) (L : Addr) (v : V) (er : Option Er), vs = [.str wy.nm, .ref L] ∧ H L = some (.lst [v]) ∧ Tabs T H ∧ (∀ H1, Same H H1 → Ends1 CK CR CP T wy v H1 er) ∧
  (er = none → ∀ p u1 u2 u3 H', ExtN H H' → Tabs T H' → H' p = some (.tup [.str "let", u1, u2, u3]) → Q (.ref p) H') ∧ (∀ x, er = some x → ∀ p H', ExtN H H' → Tabs T H' → H' p = some (.tup [.str x.nm, v, .bl false, .bl true]) → Q (.ref p) H')
theorem ok_ltold {f fa : Addr} {fd fda : FuncData} (T0 : Top K mg "_law_told" sLTold pLTold f fd) (TA : Top K mg "_law_asked" sLAsked pLAsked fa fda) (GA : FnOk P w K mg base (L2N.CX P w) 10 fa fda pLAsked (spLAsked CK CR CP T)) (B : Blt mg)
    (E1 : K1.ErrC K mg "InvalidKind" CK fI1) (E2 : K1.ErrC K mg "InvalidRow" CR fI2) (E3 : K1.ErrC K mg "InvalidPaper" CP fI3) (EC : Ecs K mg CK CR CP BP) : FnOk P w K mg base CX0 11 f fd pLTold (spLTold CK CR CP T) := by
  have gB := EC.g
  have gV := EC.b
  refine T0.F.ok scLTold (fun vs H Q E h => ?_) (fun cdv A outer s H vs Q E hr h => ?_)
  · obtain ⟨_, _, _, _, rfl, _⟩ := h
    rfl
  · obtain ⟨wy, L, v, er, rfl, eL, hT, hI, k1, k2⟩ := h
    refine ⟨_, (pss_cons (ps_asg (pe_tup (pa_cons pe_non (pa_cons pe_str pa_nil))) (pg_tup (by rfl) (pgs_cons (pg_name (i := 2) scLTold.nd rfl (Or.inl rfl)) (pgs_cons (pg_name (i := 3) scLTold.nd rfl (Or.inl rfl)) pgs_nil))))
      (pss_cons (XN.ps_tryK rfl rfl rfl scLTold.nd XN.takes_none (fun W pn xe tkW po => pss_one (ps_expr (pe_callS (E := WE W) GA hr rfl TA.g TA.F.kp TA.b (fun σ => L2N.passAt tkW σ) (pa_cons (pv 0) (pa_cons (pv 1) pa_nil)))))
        (.one (i := 4) ⟨rfl, by decide, .inl E1.gC⟩ rfl rfl (fun e cls d pn => pss_one (XN.ps_parS (e := e) (i := 2) (j := 3) rfl scLTold.nd rfl rfl (by decide) rfl rfl (pa_cons (pv 4) (pa_cons pe_str pa_nil)) (by rfl)))
        (.one (i := 4) ⟨rfl, by decide, .inl E2.gC⟩ rfl rfl (fun e cls d pn => pss_one (XN.ps_parS (e := e) (i := 2) (j := 3) rfl scLTold.nd rfl rfl (by decide) rfl rfl (pa_cons (pv 4) (pa_cons pe_str pa_nil)) (by rfl)))
        (.one (i := 4) ⟨rfl, by decide, .inl E3.gC⟩ rfl rfl (fun e cls d pn => pss_one (XN.ps_parS (e := e) (i := 2) (j := 3) rfl scLTold.nd rfl rfl (by decide) rfl rfl (pa_cons (pv 4) (pa_cons pe_str pa_nil)) (by rfl))) .none))))
      (pss_cons (ps_if (pt_cmpR op_isN (pv 2) pe_non (nomark _)) (pss_one (ps_ret (pe_tup (pa_cons pe_str (pa_cons pe_non (pa_cons pe_bl (pa_cons pe_bl pa_nil))))))) pss_nil)
      (pss_one (ps_ret (pe_tup (pa_cons (pv 3) (pa_cons (show PE _ _ (V2.tValK2 K 2) from XN.pe_valK (pv 2)) (pa_cons pe_bl (pa_cons (pe_and (pe_callB XN.call_isK (by rfl) B.isi (by decide +kernel) (pa_cons (pv 2) (pa_cons (pe_glob (v := .ref BP) rfl gB rfl) pa_nil))) (pe_one (pe_callB XN.call_isK (by rfl) B.isi (by decide +kernel) (pa_cons (pv 2) (pa_cons (pe_bltn (v := .ty "ValueError") (by rfl) gV (by decide +kernel) rfl) pa_nil))))) pa_nil)))))))))), ?_⟩
    refine ⟨by show 2 ≤ sizeLine; rw [sizeLine_eq]; omega, fun p0 np0 => ⟨p0, _, rfl, SqT.of upd_same, rfl, _, _, rfl, _, _, rfl, rfl, ?_⟩⟩
    have s0 : Same H (upd H p0 (.tup [.non, .str ""])) := same_upd np0
    refine ⟨_, rfl, _, rfl, wy, L, v, rfl, s0 _ _ eL, hI _ s0 _ _ (fun en u H' eA T' => ?_) (fun x ex d H' eA T' nd => ?_)⟩
    · refine ⟨_, rfl, rfl, true, congrArg V.bl (decide_eq_true rfl), iteT ⟨by show 4 ≤ sizeLine; rw [sizeLine_eq]; omega, fun p np => ?_⟩⟩
      have s4 := same_upd (o := .tup [.str "let", .non, .bl false, .bl true]) np
      exact k1 en p _ _ _ _ (((extn_same s0).trans eA).trans (extn_same s4)) (T'.ext s4) upd_same
    · obtain ⟨xf, xc, xn⟩ := EC.x x
      have xp := EC.p x
      have xv := EC.v x
      have k3 := k2 x ex
      have s2 := same_upd (o := XN.vdict v) nd
      have S : ∀ e, (upd H' d (XN.vdict v)) e = none → XN.KErr (upd (upd H' d (XN.vdict v)) e (XN.exk e (.ref (x.at_ CK CR CP)) (some d))) (x.at_ CK CR CP) e v ∧
          ∀ p, (upd (upd H' d (XN.vdict v)) e (XN.exk e (.ref (x.at_ CK CR CP)) (some d))) p = none → Q (.ref p) (upd (upd (upd H' d (XN.vdict v)) e (XN.exk e (.ref (x.at_ CK CR CP)) (some d))) p (.tup [.str x.nm, v, .bl false, .bl true]))   := fun e ne => by
        have s3 := same_upd (o := XN.exk e (.ref (x.at_ CK CR CP)) (some d)) ne
        have nde : d ≠ e := fun z => by rw [← z, upd_same] at ne; cases ne
        refine ⟨⟨d, upd_same, by rw [upd_ne nde, upd_same]⟩, fun p np => ?_⟩
        have s4 := same_upd (o := .tup [.str x.nm, v, .bl false, .bl true]) np
        have s24 := (s2.trans s3).trans s4
        exact k3 p _ (((extn_same s0).trans eA).trans (extn_same s24)) (T'.ext s24) upd_same
      have l4 : 4 ≤ sizeLine := by rw [sizeLine_eq]; omega
      cases x with
      | kind =>
        refine ⟨true, EC.m .kind .kind, (fun z => absurd z (by decide)), fun _ e ne => ⟨_, rfl, _, _, rfl, ⟨_, _, upd_same⟩, ?_⟩⟩
        refine ⟨_, rfl, rfl, false, congrArg V.bl (decide_eq_false fun z => nomatch z), iteF ?_⟩
        refine ⟨_, rfl, _, rfl, _, e, v, rfl, (S e ne).1, xf, xn, _, rfl, e, _, v, .ref BP, .ref BP, true, rfl, (S e ne).1, xc, .own BP, xp, true, rfl, _, rfl, e, _, v, .ty "ValueError", .type "ValueError", true, rfl, (S e ne).1, xc, .ty "ValueError", xv, l4, fun p np => (S e ne).2 p np⟩
      | row =>
        refine ⟨false, EC.m .row .kind, fun _ => ⟨true, EC.m .row .row, (fun z => absurd z (by decide)), fun _ e ne => ⟨_, rfl, _, _, rfl, ⟨_, _, upd_same⟩, ?_⟩⟩, (fun z => absurd z (by decide))⟩
        refine ⟨_, rfl, rfl, false, congrArg V.bl (decide_eq_false fun z => nomatch z), iteF ?_⟩
        refine ⟨_, rfl, _, rfl, _, e, v, rfl, (S e ne).1, xf, xn, _, rfl, e, _, v, .ref BP, .ref BP, true, rfl, (S e ne).1, xc, .own BP, xp, true, rfl, _, rfl, e, _, v, .ty "ValueError", .type "ValueError", true, rfl, (S e ne).1, xc, .ty "ValueError", xv, l4, fun p np => (S e ne).2 p np⟩
      | paper =>
        refine ⟨false, EC.m .paper .kind, fun _ => ⟨false, EC.m .paper .row, fun _ => ⟨true, EC.m .paper .paper, (fun z => absurd z (by decide)), fun _ e ne => ⟨_, rfl, _, _, rfl, ⟨_, _, upd_same⟩, ?_⟩⟩, (fun z => absurd z (by decide))⟩, (fun z => absurd z (by decide))⟩
        refine ⟨_, rfl, rfl, false, congrArg V.bl (decide_eq_false fun z => nomatch z), iteF ?_⟩
        refine ⟨_, rfl, _, rfl, _, e, v, rfl, (S e ne).1, xf, xn, _, rfl, e, _, v, .ref BP, .ref BP, true, rfl, (S e ne).1, xc, .own BP, xp, true, rfl, _, rfl, e, _, v, .ty "ValueError", .type "ValueError", true, rfl, (S e ne).1, xc, .ty "ValueError", xv, l4, fun p np => (S e ne).2 p np⟩
end
end V2

namespace V2
open PySem PySem.Spec PyProof.Rows L2 NdefX LamX KT
open PySem.W (Frag)
/-! ### what is told has the very thing in it -/
theorem OkG.noKey {R : RK} {H : Hp} {ds : List (Str × O)} {vs : List (Key × V)} {z : Str} (h : OkG R H vs ds) (n : z ∉ ds.map (·.1)) : ∀ kv ∈ vs, kv.1 ≠ Sum.inr z := by
  induction ds generalizing vs with
  | nil => cases h; intro kv m; cases m
  | cons x r ih =>
    cases h with
    | cons l a b =>
      intro kv m
      rcases List.mem_cons.mp m with e | m
      · rw [e]
        intro q
        exact n (by rw [← Sum.inr.inj q]; exact List.mem_cons_self)
      · exact ih b (fun q => n (List.mem_cons_of_mem _ q)) kv m
theorem OkG.append {R : RK} {H : Hp} {ds es : List (Str × O)} {vs us : List (Key × V)} (h : OkG R H vs ds) (h' : OkG R H us es) : OkG R H (vs ++ us) (ds ++ es) := by
  induction ds generalizing vs with
  | nil => cases h; exact h'
  | cons x r ih =>
    cases h with
    | cons l a b => exact .cons l a (ih b)
theorem OG.kinds {K : Frag} {H : Hp} {v : V} {x : O} (h : OAt H v x) : (∃ c : String, TyX K H v (.type c) ∧ kitB c "list" = some false ∧ kitB c "dict" = some false) ∨ (∃ L xs ds, v = .ref L ∧ x = .l ds ∧ H L = some (.lst xs) ∧ OsAt (rm H L) xs ds) ∨
    ∃ L kvs ds, v = .ref L ∧ x = .d ds ∧ H L = some (.dK kvs) ∧ OkAt (rm H L) kvs ds := by
  cases h with
  | s _ => exact .inl ⟨"str", .base (.str _), by decide +kernel, by decide +kernel⟩
  | i _ => exact .inl ⟨"int", .base (.int _), by decide +kernel, by decide +kernel⟩
  | b _ => exact .inl ⟨"bool", .base (.bl _), by decide +kernel, by decide +kernel⟩
  | o => exact .inl ⟨"NoneType", .base .non, by decide +kernel, by decide +kernel⟩
  | t e _ => exact .inl ⟨"tuple", .base (.tup e), by decide +kernel, by decide +kernel⟩
  | l e hx => exact .inr (.inl ⟨_, _, _, rfl, rfl, e, hx⟩)
  | d e hx => exact .inr (.inr ⟨_, _, _, rfl, rfl, e, hx⟩)
section
variable {P : Program} {w : World} {K : Frag} {mg : Str → Option Value} {base : Heap}
def spLVery : Sp := fun vs H Q _ => ∃ (p : Addr) (z : Str) (v : V) (x : O), vs = [.ref p, .str z, v] ∧ H p = some (.tup [.str z, v, .bl false, .bl true]) ∧ OAt H v x ∧ x.fine = true ∧ z.length ≤ 1000000 ∧ ∀ H', Same H H' → Q (.bl true) H'
theorem ok_lvery {f fe : Addr} {fd fde : FuncData} (T0 : Top K mg "_law_very" sLVery pLVery f fd) (TE : Top K mg "_law_exact" sLExact pLExact fe fde) (GE : FnOk P w K mg base CX0 13 fe fde pLExact (spExactO 12)) (B : Blt mg) : FnOk P w K mg base CX0 14 f fd pLVery spLVery := by
  refine T0.F.ok scLVery (fun vs H Q E h => ?_) (fun cdv A outer s H vs Q E hr h => ?_)
  · obtain ⟨_, _, _, _, rfl, _⟩ := h
    rfl
  · have hu := hu_of hr
    obtain ⟨p, z, v, x, rfl, ep, hv, hf, hz, k⟩ := h
    obtain ⟨hf1, hf3⟩ := Bool.and_eq_true_iff.mp hf
    obtain ⟨hf1, hf2⟩ := Bool.and_eq_true_iff.mp hf1
    have hd := of_decide_eq_true hf2
    refine ⟨_, (pss_cons (ps_if (pt_not (pt_val (pe_call GE hr rfl TE.g TE.F.kp TE.b .nil pass0 (pa_cons (pv 0) (pa_cons (pe_tup (pa_cons (pv 1) (pa_cons (pv 2) (pa_cons pe_bl (pa_cons pe_bl pa_nil))))) pa_nil))))) (pss_one (ps_ret pe_bl)) pss_nil)
      (pss_cons (ps_if (pt_val (pe_callB call_isi (by rfl) B.isi (by decide +kernel) (pa_cons (pv 2) (pa_cons (pe_bltn (v := .ty "list") (by rfl) B.list (by decide +kernel) rfl) pa_nil)))) (pss_cons (ps_expr (pe_bm PySem.F.plainAttrs_list PySem.F.slot_list_append PySem.F.type_list_append mt_append (pv 2) (pa_cons pe_str pa_nil)))
      (pss_cons (ps_set (i := 3) scLVery.nd rfl (Or.inl rfl) (pe_call GE hr rfl TE.g TE.F.kp TE.b .nil pass0 (pa_cons (pe_ix ix_tup (pv 0) pe_int (fun _ _ => rfl)) (pa_cons (pv 2) pa_nil))))
      (pss_cons (ps_expr (pe_bm0 PySem.F.plainAttrs_list PySem.F.slot_list_pop PySem.F.type_list_pop mt_pop (pv 2)))
      (pss_one (ps_ret (pv 3)))))) pss_nil)
      (pss_cons (ps_if (pt_val (pe_callB call_isi (by rfl) B.isi (by decide +kernel) (pa_cons (pv 2) (pa_cons (pe_bltn (v := .ty "dict") (by rfl) B.dict (by decide +kernel) rfl) pa_nil)))) (pss_cons (ps_dput hu (pv 2) pe_str pe_int rfl)
      (pss_cons (ps_set (i := 3) scLVery.nd rfl (Or.inl rfl) (pe_call GE hr rfl TE.g TE.F.kp TE.b .nil pass0 (pa_cons (pe_ix ix_tup (pv 0) pe_int (fun _ _ => rfl)) (pa_cons (pv 2) pa_nil))))
      (pss_cons (ps_expr (pe_dpop1 (pv 2) pe_str ⟨by rfl, by rfl, by rfl, by rfl⟩))
      (pss_one (ps_ret (pv 3)))))) pss_nil)
      (pss_one (ps_ret pe_bl))))), ?_⟩
    refine ⟨_, rfl, _, rfl, _, rfl, by show 4 ≤ sizeLine; rw [sizeLine_eq]; omega, fun q nq => ?_⟩
    have s1 : Same H (upd H q (.tup [.str z, v, .bl false, .bl true])) := same_upd nq
    have eq1 : upd H q (.tup [.str z, v, .bl false, .bl true]) q = _ := upd_same
    generalize upd H q (.tup [.str z, v, .bl false, .bl true]) = H1 at s1 eq1 ⊢
    have ep1 := s1 _ _ ep
    have hv1 := hv.same s1
    have tl : OsAt H1 [.str z, v, .bl false, .bl true] [.s z, x, .b false, .b true] := .cons (.s hz) (.cons hv1 (.cons (.b _) (.cons (.b _) .nil)))
    refine ⟨.ref p, .ref q, .t [.s z, x, .b false, .b true], rfl, .t ep1 tl, (OG.t eq1 tl).r1, ?_, ?_, fun H2 s2 => ?_⟩
    · simp [O.wf, owfAll, hf1]
    · simp only [O.dep, odepAll]
      omega
    have hv2 := hv1.same s2
    have ep2 := s2 _ _ ep1
    have s02 := s1.trans s2
    refine ⟨_, rfl, iteF ?_⟩
    have kk := k H2 s02
    rcases hv2.kinds (K := K) with ⟨c, ty, k1, k2⟩ | ⟨L, xs, ds, rfl, rfl, e, hx⟩ | ⟨L, kvs, ds, rfl, rfl, e, hx⟩
    · exact ⟨v, rfl, v, _, _, _, false, rfl, .ty "list", ty, kit_ty k1, false, rfl, iteF ⟨v, rfl, v, _, _, _, false, rfl, .ty "dict", ty, kit_ty k2, false, rfl, iteF kk⟩⟩
    · have npL : p ≠ L := fun z => by rw [z, e] at ep2; cases ep2
      have lx := hx.length
      have hw' : decide (ds.length ≤ 1000) = true ∧ owfAll ds = true := by
        rw [O.wf] at hf1
        exact Bool.and_eq_true_iff.mp hf1
      have l4 := of_decide_eq_true hw'.1
      refine ⟨_, rfl, _, _, _, _, true, rfl, .ty "list", .base (.lst e), kit_ty (by decide +kernel), true, rfl, iteT ?_⟩
      refine ⟨_, rfl, .inl ⟨rfl, _, SqL.of e⟩, L, xs, _, rfl, rfl, e, by rw [sizeLine_eq]; omega, ?_⟩
      have o3 : OAt (upd H2 L (.lst (xs ++ [.str "LATER"]))) (.ref L) (.l (ds ++ [.s "LATER"])) := by
        refine .l upd_same ((hx.append (.cons (.s (by decide +kernel)) .nil)).same fun b o q => ?_)
        obtain ⟨n, q'⟩ := rm_eq q
        exact rm_at n (by rw [upd_ne n]; exact q')
      refine ⟨_, rfl, p, _, _, _, rfl, rfl, SqT.of (by rw [upd_ne npL]; exact ep2), atI_nat (j := 1) rfl, _, rfl, .ref L, .ref L, .l (ds ++ [.s "LATER"]), rfl, o3, o3.r1, ?_, ?_, fun H3 s3 => ?_⟩
      · rw [O.wf, owfAll_app, hw'.2, List.length_append, List.length_singleton]
        have : ds.length + 1 ≤ 1000 := by
          have := of_decide_eq_true hf3
          omega
        rw [decide_eq_true this]
        rfl
      · simp only [O.dep] at hd ⊢
        have e2 : ∀ as bs : List O, odepAll (as ++ bs) = max (odepAll as) (odepAll bs) := by
          intro as bs
          induction as with
          | nil => simp [odepAll]
          | cons a r ih => simp only [List.cons_append, odepAll, ih]; omega
        rw [e2]
        simp only [odepAll, O.dep]
        omega
      have e3 : H3 L = some (.lst (xs ++ [.str "LATER"])) := s3 _ _ upd_same
      refine ⟨_, rfl, .inl ⟨rfl, _, SqL.of e3⟩, L, _, .str "LATER", rfl, rfl, e3, by simp, ?_⟩
      rw [List.dropLast_concat]
      refine ⟨_, rfl, k _ fun b o q => ?_⟩
      have q2 := s02 _ _ q
      by_cases z : b = L
      · rw [z] at q2 ⊢
        rw [upd_same, ← e]
        exact q2
      · rw [upd_ne z]
        exact s3 _ _ (by rw [upd_ne z]; exact q2)
    · have npL : p ≠ L := fun z => by rw [z, e] at ep2; cases ep2
      have lx := hx.length
      have hw' : ds.length ≤ 1000 ∧ (ds.map (·.1)).Nodup ∧ owfKs ds = true := by
        rw [O.wf] at hf1
        obtain ⟨w1, w2⟩ := Bool.and_eq_true_iff.mp hf1
        obtain ⟨w3, w4⟩ := Bool.and_eq_true_iff.mp w1
        exact ⟨of_decide_eq_true w3, of_decide_eq_true w4, w2⟩
      obtain ⟨l4, nd, wk⟩ := hw'
      obtain ⟨n1, n2⟩ := Bool.and_eq_true_iff.mp hf3
      have n1 := of_decide_eq_true n1
      have n2 := of_decide_eq_true n2
      have nk := hx.noKey n2
      have nv : valV kvs (Sum.inr ("LATER" : Str)) = none := by
        unfold valV
        rw [List.find?_eq_none.mpr fun kv m => by rw [decide_eq_true_eq]; exact nk kv m]
        rfl
      refine ⟨_, rfl, _, _, _, _, false, rfl, .ty "list", .base (.dK e), kit_ty (by decide +kernel), false, rfl, iteF ⟨_, rfl, _, _, _, _, true, rfl, .ty "dict", .base (.dK e), kit_ty (by decide +kernel), true, rfl, iteT ?_⟩⟩
      refine ⟨_, rfl, L, _, rfl, DPut.k (k := Sum.inr ("LATER" : Str)) e (by rw [sizeLine_eq]; omega), ?_⟩
      rw [putK_new _ nv]
      have o3 : OAt (upd H2 L (.dK (kvs ++ [(Sum.inr ("LATER" : Str), .int 1)]))) (.ref L) (.d (ds ++ [(("LATER" : Str), O.i 1)])) := by
        refine .d upd_same ((hx.append (.cons (by decide +kernel) (.i 1) .nil)).same fun b o q => ?_)
        obtain ⟨n, q'⟩ := rm_eq q
        exact rm_at n (by rw [upd_ne n]; exact q')
      refine ⟨_, rfl, p, _, _, _, rfl, rfl, SqT.of (by rw [upd_ne npL]; exact ep2), atI_nat (j := 1) rfl, _, rfl, .ref L, .ref L, .d (ds ++ [(("LATER" : Str), O.i 1)]), rfl, o3, o3.r1, ?_, ?_, fun H3 s3 => ?_⟩
      · have e1 : ((ds ++ [(("LATER" : Str), O.i 1)]).map (·.1)).Nodup := by
          rw [List.map_append]
          exact List.nodup_append.mpr ⟨nd, by simp, fun a ha b hb => by
            intro z
            have hb' : b = ("LATER" : Str) := List.mem_singleton.mp hb
            exact n2 (by rw [← hb', ← z]; exact ha)⟩
        have e2 : ∀ as bs : List (Str × O), owfKs (as ++ bs) = (owfKs as && owfKs bs) := by
          intro as bs
          induction as with
          | nil => simp [owfKs]
          | cons a r ih => simp only [List.cons_append, owfKs, ih, Bool.and_assoc]
        rw [O.wf, decide_eq_true e1, e2, wk, List.length_append, List.length_singleton, decide_eq_true (show ds.length + 1 ≤ 1000 by omega)]
        rfl
      · simp only [O.dep] at hd ⊢
        have e2 : ∀ as bs : List (Str × O), odepKs (as ++ bs) = max (odepKs as) (odepKs bs) := by
          intro as bs
          induction as with
          | nil => simp [odepKs]
          | cons a r ih => simp only [List.cons_append, odepKs, ih]; omega
        rw [e2]
        simp only [odepKs, O.dep]
        omega
      have e3 : H3 L = some (.dK (kvs ++ [(Sum.inr ("LATER" : Str), .int 1)])) := s3 _ _ upd_same
      have d3 : dropK (kvs ++ [(Sum.inr ("LATER" : Str), V.int 1)]) (Sum.inr ("LATER" : Str)) = kvs := by
        unfold dropK
        rw [List.filter_append, List.filter_eq_self.mpr fun kv m => decide_eq_true (nk kv m)]
        simp
      have v3 : valV (kvs ++ [(Sum.inr ("LATER" : Str), V.int 1)]) (Sum.inr ("LATER" : Str)) = some (.int 1) := by
        unfold valV
        rw [List.find?_append, List.find?_eq_none.mpr fun kv m => by rw [decide_eq_true_eq]; exact nk kv m]
        simp
      refine ⟨_, rfl, L, rfl, .inl ⟨_, .inl e3⟩, _, Sum.inr ("LATER" : Str), _, e3, rfl, v3, ?_⟩
      rw [d3]
      refine ⟨_, rfl, k _ fun b o q => ?_⟩
      have q2 := s02 _ _ q
      by_cases z : b = L
      · rw [z] at q2 ⊢
        rw [upd_same, ← e]
        exact q2
      · rw [upd_ne z]
        exact s3 _ _ (by rw [upd_ne z]; exact q2)
end
end V2

namespace KT
open PySem PySem.Spec PyProof.Rows L2
/-! ### a text times a number -/
def rMulS : R2 := fun x y H Q => ∃ (z : Str) (n : Int), x = .str z ∧ y = .int n ∧ MulOk z n ∧ Q (.str (Txt.mul z n)) H
theorem op_mulS {X : Cx} : OpR X (binaryOp .Mult) rMulS := by
  intro pins s σ H x y v u Q I rx ry h
  obtain ⟨z, n, rfl, rfl, hz, q⟩ := h
  obtain ⟨t, rfl⟩ := rx
  obtain ⟨t', rfl⟩ := ry
  exact SB.mul hz fun t' tk => ⟨.str (Txt.mul z n), H, I.tok _, ⟨_, rfl⟩, q⟩
theorem mul_one (c : Nat) (n : Nat) (h : 2 ≤ n) : (Txt.mul ⟨#[c]⟩ (n : Int)).cps.toList = List.replicate n c := by
  unfold Txt.mul
  rw [if_neg (by omega), if_neg (by simp [Str.length]; omega)]
  have key : ∀ (m : Nat) (acc : Array Nat), ((List.replicate m (#[c] : Array Nat)).foldl (· ++ ·) acc).toList = acc.toList ++ List.replicate m c := by
    intro m
    induction m with
    | zero => intro acc; simp
    | succ m ih =>
      intro acc
      rw [List.replicate_succ, List.foldl_cons, ih, List.replicate_succ]
      simp
  rw [show ((n : Int)).toNat = n from rfl, key]
  simp
theorem mulOk_one (c : Nat) (n : Nat) (h : n ≤ 100000) : MulOk ⟨#[c]⟩ (n : Int) := by
  refine ⟨?_, fun h1 _ => ?_, fun _ _ => ?_⟩
  · rw [Bool.or_eq_false_iff]
    exact ⟨decide_eq_false (by omega), decide_eq_false (by omega)⟩
  · have e : ((⟨#[c]⟩ : Str).length : Int) = 1 := rfl
    rw [e]
    intro q
    have : 1 ≤ (2 ^ 63 - 1 : Int) / (n : Int) := by
      rw [Int.le_ediv_iff_mul_le (by omega)]
      omega
    omega
  · have e : (⟨#[c]⟩ : Str).length = 1 := rfl
    rw [e, Nat.one_mul, Int.toNat_natCast]
    unfold Builtin.Str.tooLong
    have hs := sizeLine_eq
    first
      | exact decide_eq_false (by omega)
      | (simp; omega)
end KT

namespace V2
open PySem PySem.Spec PyProof.Rows L2 KT LamX
open PySem.W (Frag)
/-! ### texts that are no type's -/
theorem text_first (t : Ty) (h : t.wok) : ∃ c l, t.text.cps.toList = c :: l ∧ ((∃ z, t = .w z ∧ 97 ≤ c ∧ c ≤ 122) ∨ ((∃ g a b, t = .n g a b) ∧ c = 40)) := by
  cases t with
  | w z =>
    have h' : IsW z := h
    have e : (Ty.w z).text = z := rfl
    rw [e]
    cases q : z.cps.toList with
    | nil =>
      have := h'.1
      rw [len_cps, q] at this
      simp at this
    | cons c l => exact ⟨c, l, rfl, .inl ⟨z, rfl, h'.2.2 c (by rw [q]; exact List.mem_cons_self)⟩⟩
  | n g a b =>
    refine ⟨40, ((Ty.n g a b).text.cps.toList).tail, ?_, .inr ⟨⟨g, a, b, rfl⟩, rfl⟩⟩
    have e : (Ty.n g a b).text.cps.toList = 40 :: ((Ty.n g a b).text.cps.toList).tail := by
      simp only [Ty.text, cps_app, ch_l]
      rfl
    exact e
theorem text_last (t : Ty) (h : t.wok) : ∃ l c, t.text.cps.toList = l ++ [c] ∧ ((∃ z, t = .w z ∧ 97 ≤ c ∧ c ≤ 122) ∨ ((∃ g a b, t = .n g a b) ∧ c = 41)) := by
  cases t with
  | w z =>
    have h' : IsW z := h
    have e : (Ty.w z).text = z := rfl
    rw [e]
    have ne : z.cps.toList ≠ [] := fun q => by
      have := h'.1
      rw [len_cps, q] at this
      simp at this
    refine ⟨z.cps.toList.dropLast, z.cps.toList.getLast ne, (List.dropLast_concat_getLast ne).symm, .inl ⟨z, rfl, h'.2.2 _ (List.getLast_mem ne)⟩⟩
  | n g a b =>
    refine ⟨((Ty.n g a b).text.cps.toList).dropLast, 41, ?_, .inr ⟨⟨g, a, b, rfl⟩, rfl⟩⟩
    simp only [Ty.text, cps_app, ch_l]
    rw [List.dropLast_concat]
/-- no type's text ends so -/
theorem no_text {x : Str} {c d : Nat} {l m : List Nat} (e1 : x.cps.toList = c :: l) (e2 : x.cps.toList = m ++ [d]) (hn : ¬ ((97 ≤ c ∧ c ≤ 122) ∧ 97 ≤ d ∧ d ≤ 122)) (hp : ¬ (c = 40 ∧ d = 41)) : ofText x = .o := by
  refine ofText_no fun t ht e => ?_
  obtain ⟨c', l', q1, h1⟩ := text_first t ht
  obtain ⟨m', d', q2, h2⟩ := text_last t ht
  rw [e, e1] at q1
  rw [e, e2] at q2
  obtain ⟨rfl, _⟩ := List.cons.inj q1
  have qd := congrArg List.getLast? q2
  simp at qd
  subst qd
  rcases h1 with ⟨z, rfl, a1⟩ | ⟨⟨g, a, b, rfl⟩, rfl⟩
  · rcases h2 with ⟨_, _, a2⟩ | ⟨⟨g, a, b, z⟩, _⟩
    · exact hn ⟨a1, a2⟩
    · cases z
  · rcases h2 with ⟨z, q, _⟩ | ⟨_, rfl⟩
    · cases q
    · exact hp ⟨rfl, rfl⟩
/-- a text that no reader takes -/
structure BadTx (x : Str) : Prop where
  r : RdOk x
  k : isNoD (ofText x) = true
  b : (ofTexts (", " : Str) x).any isNoD = true
  l : (ofTexts ("\n" : Str) x).any isNoD = true
theorem any_whole {x y : Str} {c : Nat} (hy : c ∈ y.cps.toList) (hx : c ∉ x.cps.toList) (h : isNoD (ofText x) = true) : (ofTexts y x).any isNoD = true := by
  unfold ofTexts
  rw [List.any_map]
  cases q : Txt.split x y with
  | nil => exact absurd q (split_ne x y)
  | cons p r =>
    have e : p = x := split_whole hy hx (by rw [q]; exact List.mem_cons_self)
    rw [List.any_cons, e]
    simp [h]
theorem bad_of {x : Str} (r : RdOk x) (h1 : 44 ∉ x.cps.toList) (h2 : 10 ∉ x.cps.toList) (h : ofText x = .o) : BadTx x := by
  have k : isNoD (ofText x) = true := by rw [h]; rfl
  exact ⟨r, k, any_whole (c := 44) (by decide +kernel) h1 k, any_whole (c := 10) (by decide +kernel) h2 k⟩
theorem bad_lits : ∀ x ∈ (["", "A", " ", "\n", ",", "()"] : List Str), BadTx x := by
  have h : ∀ x ∈ (["", "A", " ", "\n", ",", "()"] : List Str), (x.cps.toList.all fun c => decide (c < 128)) = true ∧ x.length ≤ 20000 ∧ x.cps.toList.count 41 ≤ 50 ∧ isNoD (ofText x) = true ∧ (ofTexts (", " : Str) x).any isNoD = true ∧ (ofTexts ("\n" : Str) x).any isNoD = true := by decide +kernel
  intro x hx
  obtain ⟨a, b, c, d, e, f⟩ := h x hx
  exact ⟨⟨fun q hq => of_decide_eq_true (List.all_eq_true.mp a q hq), b, .inl c⟩, d, e, f⟩
theorem bad_open (n : Nat) (h : 2 ≤ n) (hn : n ≤ 10000) : BadTx (Txt.mul ("(" : Str) (n : Int)) := by
  have e : (Txt.mul ("(" : Str) (n : Int)).cps.toList = List.replicate n 40 := by rw [lit40]; exact mul_one 40 n h
  have l : (Txt.mul ("(" : Str) (n : Int)).length = n := by rw [len_cps, e, List.length_replicate]
  refine bad_of ⟨fun c hc => ?_, by omega, .inl ?_⟩ ?_ ?_ ?_
  · rw [e] at hc; have := List.eq_of_mem_replicate hc; omega
  · rw [e, List.count_replicate]; simp
  · rw [e]; intro hc; have := List.eq_of_mem_replicate hc; omega
  · rw [e]; intro hc; have := List.eq_of_mem_replicate hc; omega
  · refine no_text (c := 40) (d := 40) (l := List.replicate (n - 1) 40) (m := List.replicate (n - 1) 40) ?_ ?_ (by omega) (by omega)
    · rw [e, ← List.replicate_succ]; congr 1; omega
    · rw [e, ← List.replicate_succ']; congr 1; omega
theorem bad_shut (n : Nat) (h : 2 ≤ n) (hn : n ≤ 50) : BadTx (Txt.mul (")" : Str) (n : Int)) := by
  have e : (Txt.mul (")" : Str) (n : Int)).cps.toList = List.replicate n 41 := by rw [lit41]; exact mul_one 41 n h
  have l : (Txt.mul (")" : Str) (n : Int)).length = n := by rw [len_cps, e, List.length_replicate]
  refine bad_of ⟨fun c hc => ?_, by omega, .inl ?_⟩ ?_ ?_ ?_
  · rw [e] at hc; have := List.eq_of_mem_replicate hc; omega
  · rw [e, List.count_replicate]; simp; omega
  · rw [e]; intro hc; have := List.eq_of_mem_replicate hc; omega
  · rw [e]; intro hc; have := List.eq_of_mem_replicate hc; omega
  · refine no_text (c := 41) (d := 41) (l := List.replicate (n - 1) 41) (m := List.replicate (n - 1) 41) ?_ ?_ (by omega) (by omega)
    · rw [e, ← List.replicate_succ]; congr 1; omega
    · rw [e, ← List.replicate_succ']; congr 1; omega
theorem word_ends {w : Str} (h : IsW w) : (∃ c l, w.cps.toList = c :: l ∧ 97 ≤ c ∧ c ≤ 122) ∧ ∃ l c, w.cps.toList = l ++ [c] ∧ 97 ≤ c ∧ c ≤ 122 := by
  obtain ⟨c, l, e, q⟩ := text_first (.w w) h
  obtain ⟨m, d, e2, q2⟩ := text_last (.w w) h
  refine ⟨⟨c, l, e, ?_⟩, m, d, e2, ?_⟩
  · rcases q with ⟨_, _, q⟩ | ⟨⟨_, _, _, z⟩, _⟩
    · exact q
    · cases z
  · rcases q2 with ⟨_, _, q⟩ | ⟨⟨_, _, _, z⟩, _⟩
    · exact q
    · cases z
theorem bad_openw {w : Str} (hw : IsW w) (n : Nat) (h : 2 ≤ n) (hn : n ≤ 10000) : BadTx (Txt.mul ("(" : Str) (n : Int) ++ w) := by
  have e : (Txt.mul ("(" : Str) (n : Int) ++ w).cps.toList = List.replicate n 40 ++ w.cps.toList := by rw [cps_app, lit40]; show (Txt.mul ⟨#[40]⟩ (n : Int)).cps.toList ++ _ = _; rw [mul_one 40 n h]
  have l : (Txt.mul ("(" : Str) (n : Int) ++ w).length = n + w.length := by rw [len_cps, e, List.length_append, List.length_replicate, len_cps]
  have l8 := hw.2.1
  have mem : ∀ c ∈ (Txt.mul ("(" : Str) (n : Int) ++ w).cps.toList, c = 40 ∨ (97 ≤ c ∧ c ≤ 122) := fun c hc => by
    rw [e] at hc
    rcases List.mem_append.mp hc with q | q
    · exact .inl (List.eq_of_mem_replicate q)
    · exact .inr (hw.2.2 c q)
  have cnt : (Txt.mul ("(" : Str) (n : Int) ++ w).cps.toList.count 41 = 0 := List.count_eq_zero.mpr fun q => by have := mem _ q; omega
  refine bad_of ⟨fun c hc => by have := mem c hc; omega, by omega, .inl (by omega)⟩ (fun q => by have := mem _ q; omega) (fun q => by have := mem _ q; omega) ?_
  obtain ⟨_, m, d, e2, q2⟩ := word_ends hw
  refine no_text (c := 40) (d := d) (l := List.replicate (n - 1) 40 ++ w.cps.toList) (m := List.replicate n 40 ++ m) ?_ ?_ (by omega) (by omega)
  · rw [e, ← List.cons_append, ← List.replicate_succ]; congr 2; omega
  · rw [e, e2, List.append_assoc]
theorem bad_shutw {w : Str} (hw : IsW w) (n : Nat) (h : 2 ≤ n) (hn : n ≤ 10000) : BadTx (w ++ Txt.mul (")" : Str) (n : Int)) := by
  have e : (w ++ Txt.mul (")" : Str) (n : Int)).cps.toList = w.cps.toList ++ List.replicate n 41 := by rw [cps_app, lit41]; show _ ++ (Txt.mul ⟨#[41]⟩ (n : Int)).cps.toList = _; rw [mul_one 41 n h]
  have l : (w ++ Txt.mul (")" : Str) (n : Int)).length = w.length + n := by rw [len_cps, e, List.length_append, List.length_replicate, len_cps]
  have l8 := hw.2.1
  have mem : ∀ c ∈ (w ++ Txt.mul (")" : Str) (n : Int)).cps.toList, c = 41 ∨ (97 ≤ c ∧ c ≤ 122) := fun c hc => by
    rw [e] at hc
    rcases List.mem_append.mp hc with q | q
    · exact .inr (hw.2.2 c q)
    · exact .inl (List.eq_of_mem_replicate q)
  have n1 : 44 ∉ (w ++ Txt.mul (")" : Str) (n : Int)).cps.toList := fun q => by have := mem _ q; omega
  have n2 : 10 ∉ (w ++ Txt.mul (")" : Str) (n : Int)).cps.toList := fun q => by have := mem _ q; omega
  obtain ⟨⟨c, l', e1, q1⟩, _⟩ := word_ends hw
  have rd : rdD (w ++ Txt.mul (")" : Str) (n : Int)) = .o := by
    have sp : Txt.split (wideS (w ++ Txt.mul (")" : Str) (n : Int))) (ch 32) = w :: List.replicate n (ch 41) := by
      refine split_is ?_ ?_ (by simp)
      · rw [wideS_l, e, wide_app, wide_none fun c hc => (hw.2.2 c hc).1, List.map_cons]
        have k : ∀ (m : Nat) (a : List Nat), a ++ wide (List.replicate m 41) = jn [32] (a :: (List.replicate m (ch 41)).map (·.cps.toList)) := by
          intro m
          induction m with
          | zero => intro a; simp [jn, wide, sub]
          | succ m ih =>
            intro a
            rw [List.replicate_succ, List.replicate_succ, List.map_cons]
            have e3 : wide (41 :: List.replicate m 41) = [32, 41] ++ wide (List.replicate m 41) := by
              rw [show (41 :: List.replicate m 41 : List Nat) = [41] ++ List.replicate m 41 from rfl, wide_app]
              rfl
            rw [e3, ← List.append_assoc]
            have j2 : ∀ (x y : List Nat) (r : List (List Nat)), jn [32] (x :: y :: r) = x ++ ([32] ++ jn [32] (y :: r)) := fun x y r => by simp [jn]
            rw [j2, ch_l, ← ih [41]]
            simp
        exact k n _
      · intro a ha
        rcases List.mem_cons.mp ha with rfl | ha
        · exact isW_no hw (by omega)
        · rw [List.eq_of_mem_replicate ha, ch_l]
          simp
    unfold rdD
    rw [sp]
    have nn : ∀ l : List Str, l.foldl rd1 none = none := by
      intro l
      induction l with
      | nil => rfl
      | cons a r ih => rw [List.foldl_cons]; exact ih
    have z : rdAll (w :: List.replicate n (ch 41)) [] = none := by
      unfold rdAll
      obtain ⟨m, rfl⟩ : ∃ m, n = m + 1 := ⟨n - 1, by omega⟩
      rw [List.foldl_cons, List.replicate_succ, List.foldl_cons]
      have a1 : rd1 (some []) w = some [.s w] := by
        unfold rd1
        dsimp only
        rw [if_neg (ne_close fun c hc => (hw.2.2 c hc).1)]
        rfl
      have a2 : rd1 (some [.s w]) (ch 41) = none := by
        unfold rd1
        dsimp only
        rw [if_pos rfl]
        rfl
      rw [a1, a2, nn]
    rw [z]
  refine bad_of ⟨fun c hc => by have := mem c hc; omega, by omega, .inr ⟨n1, n2, rd⟩⟩ n1 n2 ?_
  refine no_text (c := c) (d := 41) (l := l' ++ List.replicate n 41) (m := w.cps.toList ++ List.replicate (n - 1) 41) ?_ ?_ (by omega) (by omega)
  · rw [e, e1]; rfl
  · rw [e, List.append_assoc, ← List.replicate_succ']; congr 2; omega
end V2

namespace V2
open PySem PySem.Spec PyProof.Rows L2 NdefX LamX KT
open PySem.W (Frag)
/-! ### all wrong ones fall -/
section
variable {P : Program} {w_ : World} {K : Frag} {mg : Str → Option Value} {base : Heap} {T : List (Addr × Str)} {CK CR CP : Addr}
theorem ends_kind {v : V} {H : Hp} {x : O} (h : OAt H v x) (hd : x.dep ≤ 3) (k : kdO 3 x = false) (hT : Tabs T H) : ∀ H1, Same H H1 → Ends1 CK CR CP T .kind v H1 (some .kind) := fun H1 s1 Q E _ q => by
  obtain ⟨n, hn, ok⟩ := kdO_ok 3 x hd
  rw [k] at ok
  exact ⟨v, false, n, rfl, ok.ov (h.same s1), by omega, hT.ext s1, (fun z => by cases z), fun _ d H' s' nd => q .kind rfl d H' (extn_same s') ((hT.ext s1).ext s') nd⟩
theorem ends_row {v : V} {H : Hp} {x : O} (wy : Wy) (hw : wy = .row ∨ wy = .kinds) (h : OAt H v x) (hd : x.dep ≤ 4) (hwf : x.wf = true) (k : rowO 3 x = false) (hT : Tabs T H) : ∀ H1, Same H H1 → Ends1 CK CR CP T wy v H1 (some .row) := fun H1 s1 Q E _ q => by
  obtain ⟨a, ok⟩ := rowO_ok 3 (by omega) x hd hwf
  rw [k] at ok
  have g : ∀ sep, spRowTextA CR sep T [v] H1 Q E := fun sep => ⟨v, a, false, rfl, ok.rv (h.same s1), hT.ext s1, (fun z => by cases z), fun _ d H' s' nd => q .row rfl d H' (extn_same s') ((hT.ext s1).ext s') nd⟩
  rcases hw with rfl | rfl
  · exact g _
  · exact g _
theorem ends_paper {v : V} {H : Hp} {x : O} (wy : Wy) (hw : wy = .rkind ∨ wy = .rrow ∨ wy = .rkinds) (h : OAt H v x) (k : ∀ z, x = .s z → BadTx z) (hT : Tabs T H) : ∀ H1, Same H H1 → Ends1 CK CR CP T wy v H1 (some .paper) := fun H1 s1 Q E _ q => by
  have hT1 := hT.ext s1
  by_cases c : ∃ z, x = .s z
  · obtain ⟨z, rfl⟩ := c
    have b := k z rfl
    cases h
    rcases hw with rfl | rfl | rfl
    · refine .inl ⟨z, rfl, b.r, hT1, (fun u H' _ _ _ hn => ?_), fun _ d H' eA T' nd => q .paper rfl d H' eA T' nd⟩
      rw [b.k] at hn
      cases hn
    · refine .inl ⟨z, rfl, b.r, hT1, (fun u us H' _ _ _ _ hn => ?_), fun _ d H' eA T' nd => q .paper rfl d H' eA T' nd⟩
      rw [b.b] at hn
      cases hn
    · refine .inl ⟨z, rfl, b.r, hT1, (fun u us H' _ _ _ _ hn => ?_), fun _ d H' eA T' nd => q .paper rfl d H' eA T' nd⟩
      rw [b.l] at hn
      cases hn
  · have g : spReadN CP [v] H1 Q E := ⟨v, rfl, O.notS (h.same s1) fun z e => c ⟨z, e⟩, fun d H' s' nd => q .paper rfl d H' (extn_same s') (hT1.ext s') nd⟩
    rcases hw with rfl | rfl | rfl <;> exact .inr g
theorem tv {wy : Wy} {x : Er} {v : V} {L : Addr} {H : Hp} {Q : VK} {E : XK} (hL : H L = some (.lst [v])) (hT : Tabs T H) (ends : ∀ H1, Same H H1 → Ends1 CK CR CP T wy v H1 (some x))
    (q : ∀ p H', ExtN H H' → Tabs T H' → H' p = some (.tup [.str x.nm, v, .bl false, .bl true]) → Q (.ref p) H') : spLTold CK CR CP T [.str wy.nm, .ref L] H Q E :=
  ⟨wy, L, v, some x, rfl, hL, hT, ends, (fun z => by cases z), fun x' e p H' e' T' hp => by cases e; exact q p H' e' T' hp⟩
theorem yo_mul {σ : L2.St} {H0 : Hp} {z : Str} {i : Int} {c n : Nat} (ez : z = ch c) (ei : i = (n : Int)) (h : n ≤ 100000) (h2 : 2 ≤ n) : Yo (tOp rMulS (tC (.str z)) (tC (.int i))) σ H0 (.s (Txt.mul z i)) := fun H s Q q => by
  subst ez
  subst ei
  exact ⟨_, _, rfl, rfl, mulOk_one c n h, q _ _ (Same.refl _) (.s (by rw [len_cps]; show (Txt.mul ⟨#[c]⟩ (n : Int)).cps.toList.length ≤ _; rw [mul_one c n h2, List.length_replicate]; omega))⟩
theorem mul_len {z : Str} {i : Int} {c n : Nat} (ez : z = ch c) (ei : i = (n : Int)) (h2 : 2 ≤ n) : (Txt.mul z i).length = n := by
  subst ez
  subst ei
  rw [len_cps]
  show (Txt.mul ⟨#[c]⟩ (n : Int)).cps.toList.length = _
  rw [mul_one c n h2, List.length_replicate]
theorem bad_openI {i : Int} {n : Nat} (e : i = (n : Int)) (h : 2 ≤ n) (hn : n ≤ 10000) : BadTx (Txt.mul ("(" : Str) i) := by subst e; exact bad_open n h hn
theorem bad_shutI {i : Int} {n : Nat} (e : i = (n : Int)) (h : 2 ≤ n) (hn : n ≤ 50) : BadTx (Txt.mul (")" : Str) i) := by subst e; exact bad_shut n h hn
theorem bad_openwI {w : Str} (hw : IsW w) {i : Int} {n : Nat} (e : i = (n : Int)) (h : 2 ≤ n) (hn : n ≤ 10000) : BadTx (Txt.mul ("(" : Str) i ++ w) := by subst e; exact bad_openw hw n h hn
theorem bad_shutwI {w : Str} (hw : IsW w) {i : Int} {n : Nat} (e : i = (n : Int)) (h : 2 ≤ n) (hn : n ≤ 10000) : BadTx (w ++ Txt.mul (")" : Str) i) := by subst e; exact bad_shutw hw n h hn
def kOr (t : Ty) : O := match t with
  | .w _ => .o
  | .n _ _ _ => t.ob
def oddT (w : Str) (t : Ty) : List O := [.o, .i 0, .b true, .s "", .l [], .t [], .d [], .l [.s w], .t [.s w], kOr t, .i 7, .s "A", .s " ", .s "\n", .s ",", .s "()", .s (Txt.mul "(" 1500)] ++ [.s (Txt.mul ")" 20), .s (Txt.mul "(" 900 ++ w), .s (w ++ Txt.mul ")" 900)]
theorem wf_ob (t : Ty) : t.ob.wf = true := by
  induction t with
  | w z => rfl
  | n g a b i j => simp [Ty.ob, O.wf, owfAll, i, j]
theorem fine_s (z : Str) : (O.s z).fine = true := by simp [O.fine, O.wf, O.dep, O.nl]
theorem oddT_no {w : Str} {t : Ty} (h : IsW w) (ht : t.signs ≤ 6) : ∀ x ∈ oddT w t, (∀ z, x = .s z → BadTx z) ∧ x.fine = true := by
  have nl := later_no h
  have lit : ∀ z ∈ (["", "A", " ", "\n", ",", "()"] : List Str), (∀ y, O.s z = .s y → BadTx y) ∧ (O.s z).fine = true := fun z hz => ⟨fun y e => by cases e; exact bad_lits z hz, rfl⟩
  intro x hx
  simp only [oddT, List.cons_append, List.nil_append, List.mem_cons, List.not_mem_nil, or_false] at hx
  rcases hx with rfl | rfl | rfl | rfl | rfl | rfl | rfl | rfl | rfl | rfl | rfl | rfl | rfl | rfl | rfl | rfl | rfl | rfl | rfl | rfl
  · exact ⟨fun z e => (by cases e), rfl⟩
  · exact ⟨fun z e => (by cases e), rfl⟩
  · exact ⟨fun z e => (by cases e), rfl⟩
  · exact lit _ (by simp)
  · exact ⟨fun z e => (by cases e), rfl⟩
  · exact ⟨fun z e => (by cases e), rfl⟩
  · exact ⟨fun z e => (by cases e), rfl⟩
  · exact ⟨fun z e => (by cases e), rfl⟩
  · exact ⟨fun z e => (by cases e), rfl⟩
  · cases t with
    | w z => exact ⟨fun z e => (by cases e), rfl⟩
    | n g a b =>
      refine ⟨fun z e => (by cases e), ?_⟩
      have d := (Ty.n g a b).ob_dep
      have e1 : (kOr (.n g a b)) = (Ty.n g a b).ob := rfl
      rw [e1, O.fine, wf_ob, decide_eq_true (by omega)]
      rfl
  · exact ⟨fun z e => (by cases e), rfl⟩
  · exact lit _ (by simp)
  · exact lit _ (by simp)
  · exact lit _ (by simp)
  · exact lit _ (by simp)
  · exact lit _ (by simp)
  · exact ⟨fun z e => by rw [← O.s.inj e]; exact bad_openI (i := 1500) (n := 1500) rfl (by omega) (by omega), fine_s _⟩
  · exact ⟨fun z e => by rw [← O.s.inj e]; exact bad_shutI (i := 20) (n := 20) rfl (by omega) (by omega), fine_s _⟩
  · exact ⟨fun z e => by rw [← O.s.inj e]; exact bad_openwI h (i := 900) (n := 900) rfl (by omega) (by omega), fine_s _⟩
  · exact ⟨fun z e => by rw [← O.s.inj e]; exact bad_shutwI h (i := 900) (n := 900) rfl (by omega) (by omega), fine_s _⟩
end
end V2

namespace V2
open PySem PySem.Spec PyProof.Rows L2 NdefX LamX KT
open PySem.W (Frag)
section
variable {P : Program} {w_ : World} {K : Frag} {mg : Str → Option Value} {base : Heap} {T : List (Addr × Str)} {CK CR CP : Addr}
def spLFalls (T : List (Addr × Str)) : Sp := fun vs H Q _ => ∃ w v t, vs = [.str w, v] ∧ IsW w ∧ TyAt H v t ∧ t.signs ≤ 6 ∧ Tabs T H ∧ ∀ H', ExtN H H' → Tabs T H' → Q (.bl true) H'
theorem ok_lfalls {f fk fr ft fv : Addr} {fd fdk fdr fdt fdv : FuncData} (T0 : Top K mg "_law_falls" sLFalls pLFalls f fd) (TK_ : Top K mg "_law_odd_kinds" sLOddKinds pLOddKinds fk fdk) (GK : FnOk P w_ K mg base CX0 1 fk fdk pLOddKinds spLOddKinds)
    (TR : Top K mg "_law_odd_rows" sLOddRows pLOddRows fr fdr) (GR : FnOk P w_ K mg base CX0 1 fr fdr pLOddRows spLOddRows) (TT : Top K mg "_law_told" sLTold pLTold ft fdt) (GT : FnOk P w_ K mg base CX0 11 ft fdt pLTold (spLTold CK CR CP T))
    (TV : Top K mg "_law_very" sLVery pLVery fv fdv) (GV : FnOk P w_ K mg base CX0 14 fv fdv pLVery spLVery) (B : Blt mg) : FnOk P w_ K mg base CX0 15 f fd pLFalls (spLFalls T) := by
  refine T0.F.ok scLFalls (fun vs H Q E h => ?_) (fun cdv A outer s H vs Q E hr h => ?_)
  · obtain ⟨_, _, _, rfl, _⟩ := h
    rfl
  · have hr1 : Room 1 _ := hr.mono (by decide)
    have hr11 : Room 11 _ := hr.mono (by decide)
    have hr14 : Room 14 _ := hr.mono (by decide)
    obtain ⟨w, v, t, rfl, hW, hv, ht, hT, k⟩ := h
    refine ⟨_, (pss_cons (ps_for PassesOwn.never rfl (pi_list (pe_call GK hr1 rfl TK_.g TK_.F.kp TK_.b .nil pass0 (pa_cons (pv 0) pa_nil))) (pg_name (i := 2) scLFalls.nd rfl (Or.inr rfl))
      (pss_one (ps_if (pt_not (pt_val (pe_call GV hr14 rfl TV.g TV.F.kp TV.b .nil pass0 (pa_cons (pe_call GT hr11 rfl TT.g TT.F.kp TT.b .nil pass0 (pa_cons pe_str (pa_cons (pe_lst (pa_cons (pv 2) pa_nil)) pa_nil))) (pa_cons pe_str (pa_cons (pv 2) pa_nil)))))) (pss_one (ps_ret pe_bl)) pss_nil)))
      (pss_cons (ps_for PassesOwn.never rfl (pi_list (pe_op op_cat (pe_call GR hr1 rfl TR.g TR.F.kp TR.b .nil pass0 (pa_cons (pv 0) pa_nil)) (pe_lst (pa_cons (pe_lst pa_nil) pa_nil)))) (pg_name (i := 2) scLFalls.nd rfl (Or.inr rfl))
      (pss_one (ps_if (pt_not (pt_val (pe_callB (cr_all rfl) (by rfl) B.all (by decide +kernel) (pa_cons (pe_lc (own := [("way", 3)]) (g := (gName 3)) (tt := tYes) rfl scLFalls.nd (pi_tup (pe_tup (pa_cons pe_str (pa_cons pe_str pa_nil)))) (blkOk_by (N := nLFalls) (sc := defScope sLFalls) (by decide +kernel)) (fun _ _ _ _ _ => pg_name (i := 3) scLFalls.nd rfl (Or.inl rfl)) (fun _ _ _ _ _ => pts_nil) (fun _ _ _ _ _ => (pe_call GV hr14 rfl TV.g TV.F.kp TV.b .nil pass0 (pa_cons (pe_call GT hr11 rfl TT.g TT.F.kp TT.b .nil pass0 (pa_cons (pv 3) (pa_cons (pe_lst (pa_cons (pv 2) pa_nil)) pa_nil))) (pa_cons pe_str (pa_cons (pv 2) pa_nil)))))) pa_nil)))) (pss_one (ps_ret pe_bl)) pss_nil)))
      (pss_cons (ps_set (i := 4) scLFalls.nd rfl (Or.inl rfl) (pe_lst (pa_cons pe_non (pa_cons pe_int (pa_cons pe_bl (pa_cons pe_str (pa_cons (pe_lst pa_nil) (pa_cons (pe_tup pa_nil) (pa_cons pe_dnewK (pa_cons (pe_lst (pa_cons (pv 0) pa_nil)) (pa_cons (pe_tup (pa_cons (pv 0) pa_nil)) (pa_cons (pe_ifExp (pt_val (pe_callB call_isi (by rfl) B.isi (by decide +kernel) (pa_cons (pv 1) (pa_cons (pe_bltn (v := .ty "tuple") (by rfl) B.tuple (by decide +kernel) rfl) pa_nil)))) (pv 1) pe_non) (pa_cons pe_int (pa_cons pe_str (pa_cons pe_str (pa_cons pe_str (pa_cons pe_str (pa_cons pe_str (pa_cons (pe_op KT.op_mulS pe_str pe_int) pa_nil)))))))))))))))))))
      (pss_cons (ps_set (i := 4) scLFalls.nd rfl (Or.inl rfl) (pe_op op_cat (pv 4) (pe_lst (pa_cons (pe_op KT.op_mulS pe_str pe_int) (pa_cons (pe_op op_add_str (pe_op KT.op_mulS pe_str pe_int) (pv 0)) (pa_cons (pe_op op_add_str (pv 0) (pe_op KT.op_mulS pe_str pe_int)) pa_nil))))))
      (pss_cons (ps_for PassesOwn.never rfl (pi_tup (pe_tup (pa_cons pe_str (pa_cons pe_str (pa_cons pe_str pa_nil))))) (pg_name (i := 3) scLFalls.nd rfl (Or.inr rfl))
      (pss_one (ps_if (pt_not (pt_val (pe_callB (cr_all rfl) (by rfl) B.all (by decide +kernel) (pa_cons (pe_lc (own := [("odd", 2)]) (g := (gName 2)) (tt := tYes) rfl scLFalls.nd (pi_list (pv 4)) (blkOk_by (N := nLFalls) (sc := defScope sLFalls) (by decide +kernel)) (fun _ _ _ _ _ => pg_name (i := 2) scLFalls.nd rfl (Or.inl rfl)) (fun _ _ _ _ _ => pts_nil) (fun _ _ _ _ _ => (pe_call GV hr14 rfl TV.g TV.F.kp TV.b .nil pass0 (pa_cons (pe_call GT hr11 rfl TT.g TT.F.kp TT.b .nil pass0 (pa_cons (pv 3) (pa_cons (pe_lst (pa_cons (pv 2) pa_nil)) pa_nil))) (pa_cons pe_str (pa_cons (pv 2) pa_nil)))))) pa_nil)))) (pss_one (ps_ret pe_bl)) pss_nil)))
      (pss_one (ps_ret pe_bl))))))), ?_⟩
    have sz1 : 1 ≤ sizeLine := by rw [sizeLine_eq]; omega
    have sz2 : 2 ≤ sizeLine := by rw [sizeLine_eq]; omega
    have sz3 : 3 ≤ sizeLine := by rw [sizeLine_eq]; omega
    refine ⟨_, rfl, w, rfl, hW, fun vL H1 s1 hL => ?_⟩
    cases hL with
    | @l _ L us _ eL hU =>
    have hT1 := hT.ext s1
    have hv1 := hv.mono (TK.of_same s1)
    refine ⟨L, rfl, ⟨_, SqL.of eL⟩, ?_⟩
    refine for_list (K := K) (xs := us) (fun i σ H' => ∃ v2, σ = [some (.str w), some v, v2, none, none] ∧ ExtN H1 H' ∧ Tabs T H') ⟨none, rfl, ExtN.refl _, hT1⟩ (fun i σ H' _ ⟨_, _, e, _⟩ => SqL.of (extn_lst e eL)) ?_ ?_
    · rintro i y σ H2 hy ⟨v2, rfl, e2, T2⟩
      obtain ⟨d, hd, hyd⟩ := hU.at_ hy
      obtain ⟨k1, k2, k3⟩ := oddK_no hW d (List.mem_of_getElem? hd)
      have hy2 : OAt H2 y d := (hyd.same rm_sub).ext e2
      refine gN ⟨_, rfl, sz1, fun L1 nL1 => ⟨.kind, L1, y, some .kind, rfl, upd_same, (T2.ext (same_upd nL1)), (ends_kind (hy2.same (same_upd nL1)) k2 k1 (T2.ext (same_upd nL1))), (fun z => by cases z), fun x1 ex p H3 e3 T3 hp => ?_⟩⟩
      obtain rfl := Option.some.inj ex
      have e13 := (extn_same (same_upd (o := .lst [y]) nL1)).trans e3
      refine ⟨_, rfl, p, _, y, d, rfl, hp, hy2.ext e13, k3, by decide +kernel, fun H4 s4 => ⟨true, rfl, iteF ?_⟩⟩
      exact ⟨_, rfl, (e2.trans e13).trans (extn_same s4), T3.ext s4⟩
    · rintro σ H2 ⟨v2, rfl, e2, T2⟩
      have eH2 := (extn_same s1).trans e2
      have hv2 := hv1.mono (extn_tk e2)
      clear e2 hT1 hv1 hU eL s1
      dsimp only
      refine yo_cat (ds := oddR w) (es := [.l []]) ?_ (yo_lst (yoa_cons (yo_lst yoa_nil (Nat.le_of_ble_eq_true rfl)) yoa_nil) (Nat.le_of_ble_eq_true rfl)) (Nat.le_of_ble_eq_true rfl) _ (Same.refl _) _ fun vL H3 s3 hL => ?_
      · exact fun H s Q q => ⟨_, rfl, w, rfl, hW, q⟩
      cases hL with
      | @l _ L us _ eL hU =>
      have T3 := T2.ext s3
      have hv3 := hv2.mono (TK.of_same s3)
      refine ⟨L, rfl, ⟨_, SqL.of eL⟩, ?_⟩
      refine for_list (K := K) (xs := us) (fun i σ H' => ∃ v2, σ = [some (.str w), some v, v2, none, none] ∧ ExtN H3 H' ∧ Tabs T H') ⟨_, rfl, ExtN.refl _, T3⟩ (fun i σ H' _ ⟨_, _, e, _⟩ => SqL.of (extn_lst e eL)) ?_ ?_
      · rintro i y σ H4 hy ⟨v2, rfl, e4, T4⟩
        obtain ⟨d, hd, hyd⟩ := hU.at_ hy
        obtain ⟨k1, k2, k3⟩ := oddR_no hW d (List.mem_of_getElem? hd)
        have kw : d.wf = true := (Bool.and_eq_true_iff.mp (Bool.and_eq_true_iff.mp k3).1).1
        have hy4 : OAt H4 y d := (hyd.same rm_sub).ext e4
        refine gN ⟨sz2, fun q nq => ⟨q, rfl, ⟨_, SqT.of upd_same⟩, fun D hD => ?_⟩⟩
        have T5 := T4.ext (same_upd (o := .tup [.str "row", .str "kinds"]) nq)
        have e45 := extn_same (same_upd (o := .tup [.str "row", .str "kinds"]) nq)
        have eq5 : upd H4 q (.tup [.str "row", .str "kinds"]) q = _ := upd_same
        generalize upd H4 q (.tup [.str "row", .str "kinds"]) = H5 at T5 e45 eq5 hD ⊢
        have hy5 := hy4.ext e45
        have eD5 := extn_same (same_upd (o := .lst []) hD)
        refine lc_tup (K := K) (xs := [.str "row", .str "kinds"]) (fun i H' => ExtN H5 H' ∧ Tabs T H' ∧ H' D = some (.lst (List.replicate i (.bl true)))) ⟨eD5, T5.ext (same_upd hD), upd_same⟩ (fun i H' _ q => SqT.of (q.1 _ _ eq5 fun ps z => by cases z)) ?_ ?_
        · rintro i z H6 hz ⟨e6, T6, eD⟩
          have hy6 := hy5.ext e6
          have i2 : i < 2 := by
            have := (List.getElem?_eq_some_iff.mp hz).1
            exact this
          obtain ⟨wy, ew, rfl⟩ : ∃ wy : Wy, (wy = .row ∨ wy = .kinds) ∧ z = .str wy.nm := by
            match i, hz with
            | 0, hz => exact ⟨.row, .inl rfl, (Option.some.inj hz).symm⟩
            | 1, hz => exact ⟨.kinds, .inr rfl, (Option.some.inj hz).symm⟩
            | n + 2, hz => exact absurd hz (by simp)
          refine ⟨rfl, _, rfl, _, rfl, sz1, fun L1 nL1 => ⟨wy, L1, y, some .row, rfl, upd_same, (T6.ext (same_upd nL1)), (ends_row wy ew (hy6.same (same_upd nL1)) k2 kw k1 (T6.ext (same_upd nL1))), (fun z => by cases z), fun x1 ex p H7 e7 T7 hp => ?_⟩⟩
          obtain rfl := Option.some.inj ex
          have e67 := (extn_same (same_upd (o := .lst [y]) nL1)).trans e7
          refine ⟨_, rfl, p, _, y, d, rfl, hp, hy6.ext e67, k3, by decide +kernel, fun H8 s8 => ?_⟩
          have e68 := e67.trans (extn_same s8)
          have T8 := T7.ext s8
          have eD8 := extn_lst e68 eD
          exact ⟨_, eD8, by rw [List.length_replicate, sizeLine_eq]; omega, extn_over (e6.trans e68) hD, tabs_lst T8 eD8, by rw [upd_same, ← List.replicate_succ']⟩
        · rintro H6 ⟨e6, T6, eD⟩
          refine ⟨D, List.replicate 2 true, rfl, SqL.of (by rw [eD]; rfl), true, rfl, iteF ?_⟩
          exact ⟨_, rfl, (e4.trans e45).trans e6, T6⟩
      · rintro σ H4 ⟨v2, rfl, e4, T4⟩
        have eH4 := (eH2.trans (extn_same s3)).trans e4
        have hv4 := hv3.mono (extn_tk e4)
        clear e4 T3 hv3 hU eL s3 T2 hv2 eH2
        have hw8 := hW.2.1
        have hw : w.length ≤ 1000000 := by omega
        refine yo_set (yo_lst (yoa_cons yo_non (yoa_cons yo_int (yoa_cons yo_bl (yoa_cons (yo_str (by decide +kernel)) (yoa_cons (yo_lst yoa_nil (Nat.le_of_ble_eq_true rfl)) (yoa_cons (yo_tup yoa_nil (Nat.le_of_ble_eq_true rfl)) (yoa_cons yo_d0 (yoa_cons (yo_lst (yoa_cons (yo_var rfl (.s hw)) yoa_nil) (Nat.le_of_ble_eq_true rfl)) (yoa_cons (yo_tup (yoa_cons (yo_var rfl (.s hw)) yoa_nil) (Nat.le_of_ble_eq_true rfl))
          (yoa_cons (d := kOr t) ?_ (yoa_cons yo_int (yoa_cons (yo_str (by decide +kernel)) (yoa_cons (yo_str (by decide +kernel)) (yoa_cons (yo_str (by decide +kernel)) (yoa_cons (yo_str (by decide +kernel)) (yoa_cons (yo_str (by decide +kernel)) (yoa_cons (yo_mul (c := 40) (n := 1500) lit40 rfl (by omega) (by omega)) yoa_nil))))))))))))))))) (Nat.le_of_ble_eq_true rfl)) (Same.refl _) fun vO H5 s5 hO => ?_
        · intro H0 s0 Q0 q0
          have hv0 := hv4.mono (TK.of_same s0)
          cases t with
          | w z =>
            cases hv0
            exact ⟨_, rfl, _, _, _, _, false, rfl, .ty "tuple", .base (.str _), kit_ty (by decide +kernel), false, rfl, iteF (q0 _ _ (Same.refl _) .o)⟩
          | n g a b =>
            have ho := hv0.ob
            cases hv0 with
            | n e _ _ => exact ⟨_, rfl, _, _, _, _, true, rfl, .ty "tuple", .base (.tup e), kit_ty (by decide +kernel), true, rfl, iteT ⟨_, rfl, q0 _ _ (Same.refl _) ho⟩⟩
        have T5 := T4.ext s5
        refine yo_set (yo_cat (yo_var rfl hO) (yo_lst (yoa_cons (yo_mul (c := 41) (n := 20) lit41 rfl (by omega) (by omega)) (yoa_cons (yo_add (yo_mul (c := 40) (n := 900) lit40 rfl (by omega) (by omega)) (yo_var rfl (.s hw)) ?_) (yoa_cons (yo_add (yo_var rfl (.s hw)) (yo_mul (c := 41) (n := 900) lit41 rfl (by omega) (by omega)) ?_) yoa_nil))) (Nat.le_of_ble_eq_true rfl)) (Nat.le_of_ble_eq_true rfl)) (Same.refl _) fun vO H6 s6 hO => ?_
        · rw [mul_len (i := 900) (c := 40) (n := 900) lit40 rfl (by omega)]
          omega
        · rw [mul_len (i := 900) (c := 41) (n := 900) lit41 rfl (by omega)]
          omega
        have T6 := T5.ext s6
        have hO' : OAt H6 vO (.l (oddT w t)) := hO
        have eH6 := (eH4.trans (extn_same s5)).trans (extn_same s6)
        clear hO T5 T4 s5 s6 hv4 eH4
        cases hO' with
        | @l _ LO us _ eL hU =>
        refine ⟨sz3, fun q nq => ⟨q, rfl, ⟨_, SqT.of upd_same⟩, ?_⟩⟩
        have T7 := T6.ext (same_upd (o := .tup [.str "readkind", .str "readrow", .str "readkinds"]) nq)
        have e67 := extn_same (same_upd (o := .tup [.str "readkind", .str "readrow", .str "readkinds"]) nq)
        have eq7 : upd H6 q (.tup [.str "readkind", .str "readrow", .str "readkinds"]) q = _ := upd_same
        generalize upd H6 q (.tup [.str "readkind", .str "readrow", .str "readkinds"]) = H7 at T7 e67 eq7 ⊢
        have eL7 := extn_lst e67 eL
        have hU7 := (hU.same rm_sub).ext e67
        have eH7 := eH6.trans e67
        have lu := hU7.length
        have lo : (oddT w t).length = 20 := rfl
        refine for_it (walk_tup (xs := [.str "readkind", .str "readrow", .str "readkinds"])) (fun i σ H' => ∃ v2 v3, σ = [some (.str w), some v, v2, v3, some (.ref LO)] ∧ ExtN H7 H' ∧ Tabs T H') ⟨_, _, rfl, ExtN.refl _, T7⟩ ?_ ?_ ?_
        · rintro i σ H' _ ⟨_, _, _, e, _⟩
          exact SqT.of (e _ _ eq7 fun ps z => by cases z)
        · rintro i x σ H8 H8' hi ⟨v2, v3, rfl, e8, T8⟩ ⟨rfl, hx⟩
          obtain ⟨wy, ew, rfl⟩ : ∃ wy : Wy, (wy = .rkind ∨ wy = .rrow ∨ wy = .rkinds) ∧ x = .str wy.nm := by
            match i, hx with
            | 0, hx => exact ⟨.rkind, .inl rfl, (Option.some.inj hx).symm⟩
            | 1, hx => exact ⟨.rrow, .inr (.inl rfl), (Option.some.inj hx).symm⟩
            | 2, hx => exact ⟨.rkinds, .inr (.inr rfl), (Option.some.inj hx).symm⟩
            | n + 3, hx => exact absurd hx (by simp)
          have eL8 := extn_lst e8 eL7
          have hU8 := hU7.ext e8
          refine gN ⟨_, rfl, LO, rfl, ⟨_, SqL.of eL8⟩, fun D hD => ?_⟩
          refine lc_list (K := K) (xs := us) (fun i H' => ExtN H8' H' ∧ Tabs T H' ∧ H' D = some (.lst (List.replicate i (.bl true)))) ⟨extn_same (same_upd hD), T8.ext (same_upd hD), upd_same⟩ (fun i H' _ q => SqL.of (extn_lst q.1 eL8)) ?_ ?_
          · rintro j y H9 hy ⟨e9, T9, eD⟩
            obtain ⟨d, hd, hyd⟩ := hU8.at_ hy
            obtain ⟨k1, k3⟩ := oddT_no hW ht d (List.mem_of_getElem? hd)
            have hy9 := hyd.ext e9
            have j20 : j < 20 := by
              have := (List.getElem?_eq_some_iff.mp hy).1
              omega
            refine ⟨rfl, _, rfl, _, rfl, sz1, fun L1 nL1 => ⟨wy, L1, y, some .paper, rfl, upd_same, (T9.ext (same_upd nL1)), (ends_paper wy ew (hy9.same (same_upd nL1)) k1 (T9.ext (same_upd nL1))), (fun z => by cases z), fun x1 ex p H10 e10 T10 hp => ?_⟩⟩
            obtain rfl := Option.some.inj ex
            have e910 := (extn_same (same_upd (o := .lst [y]) nL1)).trans e10
            refine ⟨_, rfl, p, _, y, d, rfl, hp, hy9.ext e910, k3, by decide +kernel, fun H11 s11 => ?_⟩
            have e911 := e910.trans (extn_same s11)
            have T11 := T10.ext s11
            have eD11 := extn_lst e911 eD
            exact ⟨_, eD11, by rw [List.length_replicate, sizeLine_eq]; omega, extn_over (e9.trans e911) hD, tabs_lst T11 eD11, by rw [upd_same, ← List.replicate_succ']⟩
          · rintro H9 ⟨e9, T9, eD⟩
            refine ⟨D, List.replicate us.length true, rfl, SqL.of (by rw [eD, List.map_replicate]), ?_⟩
            have e : (List.replicate us.length true).all id = true := by
              rw [List.all_eq_true]
              intro b hb
              exact (List.mem_replicate.mp hb).2
            rw [e]
            exact ⟨true, rfl, iteF ⟨_, _, rfl, e8.trans e9, T9⟩⟩
        · rintro σ H8 ⟨v2, v3, rfl, e8, T8⟩
          exact k _ (eH7.trans e8) T8
end
end V2

namespace V2
open PySem PySem.Spec PyProof.Rows L2 KT LamX
open PySem.W (Frag)
/-! ### _law_same of any data without dictionaries: all of it new -/
mutual
def O.nod : O → Bool
  | .l xs => onodAll xs
  | .t xs => onodAll xs
  | .d _ => false
  | _ => true
def onodAll : List O → Bool
  | [] => true
  | d :: r => d.nod && onodAll r
end
theorem onodAll_at : ∀ {ds : List O} {i : Nat} {d : O}, onodAll ds = true → ds[i]? = some d → d.nod = true
  | [], i, d, _, e => by simp at e
  | x :: r, 0, d, h, e => by
    obtain rfl := Option.some.inj (show some x = some d from e)
    unfold onodAll at h
    exact (Bool.and_eq_true_iff.mp h).1
  | x :: r, i + 1, d, h, e => onodAll_at (ds := r) (i := i) (by unfold onodAll at h; exact (Bool.and_eq_true_iff.mp h).2) (by simpa using e)
/-- what is new in H' -/
def nw (H H' : Hp) : Hp := fun b => match H b with
  | none => H' b
  | some _ => none
theorem nw_at {H H' : Hp} {b : Addr} {o : HO} (n : H b = none) (e : H' b = some o) : nw H H' b = some o := by
  unfold nw
  rw [n]
  exact e
theorem nw_eq {H H' : Hp} {b : Addr} {o : HO} (e : nw H H' b = some o) : H b = none ∧ H' b = some o := by
  unfold nw at e
  cases q : H b with
  | none => rw [q] at e; exact ⟨rfl, e⟩
  | some _ => rw [q] at e; cases e
theorem nw_sub {H H' : Hp} : Same (nw H H') H' := fun b o e => (nw_eq e).2
section
variable {P : Program} {w : World} {K : Frag} {mg : Str → Option Value} {base : Heap}
def spSameO (n : Nat) : Sp := fun vs H Q _ => ∃ v x, vs = [v] ∧ OAt H v x ∧ x.wf = true ∧ x.nod = true ∧ x.dep ≤ n ∧ ∀ v' H', Same H H' → OAt (nw H H') v' x → Q v' H'
theorem OsG.snoc {R : RK} {H : Hp} {vs : List V} {ds : List O} {v : V} {d : O} (h : OsG R H vs ds) (h' : OG R H v d) : OsG R H (vs ++ [v]) (ds ++ [d]) := h.append (.cons h' .nil)
theorem sameO_step {f : Addr} {fd : FuncData} (T : Top K mg "_law_same" sLSame pLSame f fd) (B : Blt mg) {n m : Nat} {sp' : Sp} (GP : FnOk P w K mg base CX0 m f fd pLSame sp')
    (hsp : ∀ v x H Q, OAt H v x → x.wf = true → x.nod = true → x.dep + 1 ≤ n → (∀ v' H', Same H H' → OAt (nw H H') v' x → Q v' H') → sp' [v] H Q L2.E0) : FnOk P w K mg base CX0 (m + 1) f fd pLSame (spSameO n) := by
  refine T.F.ok scLSame (fun vs H Q E h => ?_) (fun cdv A outer s H vs Q E hr h => ?_)
  · obtain ⟨_, _, rfl, _⟩ := h
    rfl
  · obtain ⟨v, x, rfl, hv, hw, hnd, hn, k⟩ := h
    refine ⟨_, (pss_cons (ps_if (pt_val (pe_callB call_isi (by rfl) B.isi (by decide +kernel) (pa_cons (pv 0) (pa_cons (pe_bltn (v := .ty "dict") (by rfl) B.dict (by decide +kernel) rfl) pa_nil)))) pss_never pss_nil)
      (pss_cons (ps_if (pt_val (pe_callB call_isi (by rfl) B.isi (by decide +kernel) (pa_cons (pv 0) (pa_cons (pe_bltn (v := .ty "list") (by rfl) B.list (by decide +kernel) rfl) pa_nil)))) (pss_one (ps_ret (pe_lc (own := [("item", 1)]) (g := gName 1) (tt := tYes) rfl scLSame.nd (pi_list (pv 0)) (blkOk_by (N := nLSame) (sc := defScope sLSame) (by decide +kernel)) (fun _ _ _ _ _ => pg_name (i := 1) scLSame.nd rfl (Or.inl rfl)) (fun _ _ _ _ _ => pts_nil) (fun _ _ _ _ _ => (pe_call GP hr rfl T.g T.F.kp T.b .nil pass0 (pa_cons (pv 1) pa_nil)))))) pss_nil)
      (pss_one (ps_ret (pe_ifExp (pt_val (pe_callB call_isi (by rfl) B.isi (by decide +kernel) (pa_cons (pv 0) (pa_cons (pe_bltn (v := .ty "tuple") (by rfl) B.tuple (by decide +kernel) rfl) pa_nil)))) (pe_callTy call_tuple_of (by rfl) B.tuple (by decide +kernel) (pa_cons (pe_lc (own := [("item", 1)]) (g := gName 1) (tt := tYes) rfl scLSame.nd (pi_tup (pv 0)) (blkOk_by (N := nLSame) (sc := defScope sLSame) (by decide +kernel)) (fun _ _ _ _ _ => pg_name (i := 1) scLSame.nd rfl (Or.inl rfl)) (fun _ _ _ _ _ => pts_nil) (fun _ _ _ _ _ => (pe_call GP hr rfl T.g T.F.kp T.b .nil pass0 (pa_cons (pv 1) pa_nil)))) pa_nil)) (pv 0)))))), ?_⟩
    have step : ∀ (xs : List V) (ds : List O) (D : Addr) (j : Nat) (y : V) (d : O) (acc : List V) (H1 H2 : Hp), H D = none → Same H H1 → H1 D = some (.lst acc) → OsAt (rm (nw H H1) D) acc (ds.take j) → ds[j]? = some d → Same H1 H2 → OAt (nw H1 H2) y d →
        H2 D = some (.lst acc) ∧ Same H (upd H2 D (.lst (acc ++ [y]))) ∧ OsAt (rm (nw H (upd H2 D (.lst (acc ++ [y])))) D) (acc ++ [y]) (ds.take (j + 1)) := fun xs ds D j y d acc H1 H2 nD s1 eD hacc ed s2 hy => by
      refine ⟨s2 _ _ eD, same_over (s1.trans s2) nD, ?_⟩
      rw [List.take_add_one, ed]
      refine OsG.snoc (hacc.same fun b o e => ?_) (hy.same fun b o e => ?_)
      · obtain ⟨n1, e1⟩ := rm_eq e
        obtain ⟨n2, e2⟩ := nw_eq e1
        exact rm_at n1 (nw_at n2 (by rw [upd_ne n1]; exact s2 _ _ e2))
      · obtain ⟨n1, e1⟩ := nw_eq e
        have nb : b ≠ D := fun z => by rw [z, eD] at n1; cases n1
        exact rm_at nb (nw_at (s1.free n1) (by rw [upd_ne nb]; exact e1))
    have leaf : x.box = false → OAt (nw H H) v x := fun hb => by
      cases hv with
      | s h => exact .s h
      | i n => exact .i n
      | b n => exact .b n
      | o => exact .o
      | l _ _ => exact Bool.noConfusion (show true = false from hb)
      | t _ _ => exact Bool.noConfusion (show true = false from hb)
      | d _ _ => exact Bool.noConfusion (show true = false from hb)
    cases hv with
    | s h => exact ⟨_, rfl, _, _, _, _, false, rfl, .ty "dict", .base (.str _), kit_ty (by decide +kernel), false, rfl, iteF ⟨_, rfl, _, _, _, _, false, rfl, .ty "list", .base (.str _), kit_ty (by decide +kernel), false, rfl, iteF ⟨_, rfl, _, _, _, _, false, rfl, .ty "tuple", .base (.str _), kit_ty (by decide +kernel), false, rfl, iteF ⟨_, rfl, k _ _ (Same.refl _) (leaf rfl)⟩⟩⟩⟩
    | i h => exact ⟨_, rfl, _, _, _, _, false, rfl, .ty "dict", .base (.int _), kit_ty (by decide +kernel), false, rfl, iteF ⟨_, rfl, _, _, _, _, false, rfl, .ty "list", .base (.int _), kit_ty (by decide +kernel), false, rfl, iteF ⟨_, rfl, _, _, _, _, false, rfl, .ty "tuple", .base (.int _), kit_ty (by decide +kernel), false, rfl, iteF ⟨_, rfl, k _ _ (Same.refl _) (leaf rfl)⟩⟩⟩⟩
    | b h => exact ⟨_, rfl, _, _, _, _, false, rfl, .ty "dict", .base (.bl _), kit_ty (by decide +kernel), false, rfl, iteF ⟨_, rfl, _, _, _, _, false, rfl, .ty "list", .base (.bl _), kit_ty (by decide +kernel), false, rfl, iteF ⟨_, rfl, _, _, _, _, false, rfl, .ty "tuple", .base (.bl _), kit_ty (by decide +kernel), false, rfl, iteF ⟨_, rfl, k _ _ (Same.refl _) (leaf rfl)⟩⟩⟩⟩
    | o => exact ⟨_, rfl, _, _, _, _, false, rfl, .ty "dict", .base .non, kit_ty (by decide +kernel), false, rfl, iteF ⟨_, rfl, _, _, _, _, false, rfl, .ty "list", .base .non, kit_ty (by decide +kernel), false, rfl, iteF ⟨_, rfl, _, _, _, _, false, rfl, .ty "tuple", .base .non, kit_ty (by decide +kernel), false, rfl, iteF ⟨_, rfl, k _ _ (Same.refl _) (leaf rfl)⟩⟩⟩⟩
    | d _ _ => exact Bool.noConfusion (show false = true from hnd)
    | @l _ L xs ds e hx =>
      have lx := hx.length
      rw [O.wf] at hw
      obtain ⟨w1, w2⟩ := Bool.and_eq_true_iff.mp hw
      have w1 := of_decide_eq_true w1
      have nd : onodAll ds = true := hnd
      refine ⟨_, rfl, _, _, _, _, false, rfl, .ty "dict", .base (.lst e), kit_ty (by decide +kernel), false, rfl, iteF ⟨_, rfl, _, _, _, _, true, rfl, .ty "list", .base (.lst e), kit_ty (by decide +kernel), true, rfl, iteT ?_⟩⟩
      refine ⟨_, rfl, L, rfl, ⟨_, SqL.of e⟩, fun D hD => ?_⟩
      refine lc_list (K := K) (xs := xs) (fun i H' => Same H H' ∧ ∃ acc, H' D = some (.lst acc) ∧ OsAt (rm (nw H H') D) acc (ds.take i)) ⟨same_upd hD, [], upd_same, .nil⟩ (fun i H' _ q => SqL.of (q.1 _ _ e)) ?_ ?_
      · rintro i y H1 hy ⟨s1, acc, eD, hacc⟩
        obtain ⟨d, hd, hyd⟩ := hx.at_ hy
        have la := hacc.length
        rw [List.length_take] at la
        refine ⟨rfl, _, rfl, hsp _ d _ _ ((hyd.same rm_sub).same s1) (owfAll_at w2 hd) (onodAll_at nd hd) (by have := odepAll_at hd; simp only [O.dep] at hn; omega) fun y' H2 s2 hy' => ?_⟩
        obtain ⟨q1, q2, q3⟩ := step xs ds D i y' d acc H1 H2 hD s1 eD hacc hd s2 hy'
        exact ⟨_, q1, by rw [sizeLine_eq]; omega, q2, _, upd_same, q3⟩
      · rintro H1 ⟨s1, acc, eD, hacc⟩
        rw [lx, List.take_length] at hacc
        exact k _ _ s1 (.l (nw_at hD eD) hacc)
    | @t _ L xs ds e hx =>
      have lx := hx.length
      rw [O.wf] at hw
      obtain ⟨w1, w2⟩ := Bool.and_eq_true_iff.mp hw
      have w1 := of_decide_eq_true w1
      have nd : onodAll ds = true := hnd
      refine ⟨_, rfl, _, _, _, _, false, rfl, .ty "dict", .base (.tup e), kit_ty (by decide +kernel), false, rfl, iteF ⟨_, rfl, _, _, _, _, false, rfl, .ty "list", .base (.tup e), kit_ty (by decide +kernel), false, rfl, iteF ⟨_, rfl, _, _, _, _, true, rfl, .ty "tuple", .base (.tup e), kit_ty (by decide +kernel), true, rfl, iteT ?_⟩⟩⟩
      refine ⟨_, rfl, L, rfl, ⟨_, SqT.of e⟩, fun D hD => ?_⟩
      refine lc_tup (K := K) (xs := xs) (fun i H' => Same H H' ∧ ∃ acc, H' D = some (.lst acc) ∧ OsAt (rm (nw H H') D) acc (ds.take i)) ⟨same_upd hD, [], upd_same, .nil⟩ (fun i H' _ q => SqT.of (q.1 _ _ e)) ?_ ?_
      · rintro i y H1 hy ⟨s1, acc, eD, hacc⟩
        obtain ⟨d, hd, hyd⟩ := hx.at_ hy
        have la := hacc.length
        rw [List.length_take] at la
        refine ⟨rfl, _, rfl, hsp _ d _ _ (hyd.same s1) (owfAll_at w2 hd) (onodAll_at nd hd) (by have := odepAll_at hd; simp only [O.dep] at hn; omega) fun y' H2 s2 hy' => ?_⟩
        obtain ⟨q1, q2, q3⟩ := step xs ds D i y' d acc H1 H2 hD s1 eD hacc hd s2 hy'
        exact ⟨_, q1, by rw [sizeLine_eq]; omega, q2, _, upd_same, q3⟩
      · rintro H1 ⟨s1, acc, eD, hacc⟩
        rw [lx, List.take_length] at hacc
        refine ⟨D, acc, rfl, .inl ⟨SqL.of eD, fun p hp => ?_⟩⟩
        exact k _ _ (s1.trans (same_upd hp)) (.t (nw_at (s1.free hp) upd_same) (hacc.same fun b o q => by
          obtain ⟨n1, q1⟩ := rm_eq q
          obtain ⟨n2, q2⟩ := nw_eq q1
          exact nw_at n2 (same_upd hp _ _ q2)))
theorem ok_sameO {f : Addr} {fd : FuncData} (T : Top K mg "_law_same" sLSame pLSame f fd) (B : Blt mg) : ∀ n : Nat, FnOk P w K mg base CX0 (1 + n) f fd pLSame (spSameO n)
  | 0 => sameO_step T B (n := 0) ⟨fun _ _ _ _ h => h.elim, fun _ _ _ _ _ _ _ _ _ _ _ _ _ h => h.elim⟩ (sp' := fun _ _ _ _ => False) (fun _ _ _ _ _ _ _ h => absurd h (by omega))
  | n + 1 => sameO_step T B (n := n + 1) (ok_sameO T B n) (fun v x H Q h1 hw hn hd k => ⟨v, x, rfl, h1, hw, hn, by omega, k⟩)
end
end V2

namespace V2
open PySem PySem.Spec PyProof.Rows L2 NdefX LamX KT
open PySem.W (Frag)
/-! ### the law -/
theorem hu64 {A : Around} {k : Nat} (hr : Room k A) : A.units + 64 < cLine := by
  have := hr.un
  omega
theorem tys_ob {H : Hp} {us : List V} {ts : List Ty} (h : Tys H us ts) : OsAt H us (ts.map Ty.ob) := by
  induction h with
  | nil => exact .nil
  | cons a _ i => exact .cons a.ob i
theorem tk_rm {H : Hp} {p : Addr} {xs : List V} (e : H p = some (.lst xs)) : TK H (rm H p) := fun q ys h => rm_at (fun z => by rw [z, e] at h; cases h) h
theorem nod_ob (t : Ty) : t.ob.nod = true := by
  induction t with
  | w z => rfl
  | n g a b i j => simp [Ty.ob, O.nod, onodAll, i, j]
theorem obs_facts {ts : List Ty} {n : Nat} (h : ∀ t ∈ ts, t.signs ≤ n) : owfAll (ts.map Ty.ob) = true ∧ onodAll (ts.map Ty.ob) = true ∧ odepAll (ts.map Ty.ob) ≤ n := by
  induction ts with
  | nil => exact ⟨rfl, rfl, Nat.zero_le _⟩
  | cons t r ih =>
    obtain ⟨a, b, c⟩ := ih fun u hu => h u (List.mem_cons_of_mem _ hu)
    have d := t.ob_dep
    have e := h t List.mem_cons_self
    refine ⟨by simp [owfAll, wf_ob, a], by simp [onodAll, nod_ob, b], ?_⟩
    simp only [List.map_cons, odepAll]
    omega
theorem tys_ovb {H : Hp} {us : List V} {ts : List Ty} (h : Tys H us ts) : (∀ t ∈ ts, t.size ≤ 1000) → OVb H us (ts.map fun _ => true) := by
  induction h with
  | nil => intro _; exact .nil
  | @cons v t vs ts a _ i => intro hb; exact .cons a.ov (by have := hb t List.mem_cons_self; omega) (i fun u hu => hb u (List.mem_cons_of_mem _ hu))
structure Drawn (H : Hp) (a L : Addr) (n : Nat) (zs : List Str) : Prop where
  p : PurseAt H a n
  ne : L ≠ a
  l : H L = some (.lst (zs.map V.str))
  z : Plains zs
theorem Drawn.but {H H' : Hp} {a L : Addr} {n m : Nat} {zs : List Str} (h : Drawn H a L n zs) (k : KeepBut a H H') (p : PurseAt H' a m) : Drawn H' a L m zs := ⟨p, h.ne, k _ _ h.l h.ne, h.z⟩
theorem tabs_kb {T : List (Addr × Str)} {H H' : Hp} {a : Addr} {n : Nat} (t : Tabs T H) (p : PurseAt H a n) (k : KeepBut a H H') : Tabs T H' := by
  obtain ⟨p0, p1, p2, p3, e, rr⟩ := p
  exact tabs_but t e (fun ps z => by cases z) (fun c q z => by cases z) fun b u h n => k _ _ h n
section
variable {P : Program} {w_ : World} {K : Frag} {mg : Str → Option Value} {base : Heap} {T : List (Addr × Str)} {CK CR CP : Addr}
/-- a right thing: it is let -/
def Let1 (CK CR CP : Addr) (T : List (Addr × Str)) (wy : Wy) (v : V) (H : Hp) : Prop := ∀ H1, ExtN H H1 → Tabs T H1 → Ends1 CK CR CP T wy v H1 none
theorem Let1.ext {wy : Wy} {v : V} {H H' : Hp} (h : Let1 CK CR CP T wy v H) (e : ExtN H H') : Let1 CK CR CP T wy v H' := fun H1 e1 T1 => h H1 (e.trans e1) T1
theorem let_kind {v : V} {t : Ty} {H : Hp} (h : TyAt H v t) (hs : t.size ≤ 10000) : Let1 CK CR CP T .kind v H := fun H1 e1 T1 Q E q _ => ⟨v, true, t.size, rfl, (h.mono (extn_tk e1)).ov, hs, T1, fun _ z H' e' T' => q rfl _ H' e' T', fun z => by cases z⟩
theorem let_row {L : Addr} {us : List V} {ts : List Ty} {H : Hp} (wy : Wy) (hw : wy = .row ∨ wy = .kinds) (eL : H L = some (.lst us)) (hU : Tys H us ts) (hn : ts ≠ []) (hl : ts.length ≤ 100) (hs : ∀ t ∈ ts, t.d.dep ≤ 60 ∧ t.d.size ≤ 1000 ∧ t.size ≤ 1000) : Let1 CK CR CP T wy (.ref L) H := fun H1 e1 T1 Q E q _ => by
  have eL1 := extn_lst e1 eL
  have hU1 := hU.mono (extn_tk e1)
  have lu := hU1.length
  have q0 := RV.lst eL1 (by omega) (tys_ovb hU1 fun t ht => (hs t ht).2.2)
  have e2 : (ts.map fun _ => true).all id = true := by simp
  have e3 : ((ts.map fun _ => true).all id && decide (0 < us.length)) = true := by
    rw [e2, Bool.true_and, decide_eq_true_eq, lu]
    exact List.length_pos_iff.mpr hn
  rw [e3] at q0
  have g : ∀ sep, spRowTextA CR sep T [.ref L] H1 Q E := fun sep => ⟨.ref L, _, true, rfl, q0, T1, fun _ => ⟨L, ts, rfl, ⟨us, eL1, hU1⟩, hn, hl, fun t ht => ⟨(hs t ht).1, (hs t ht).2.1⟩, fun H' e' T' => q rfl _ H' e' T'⟩, fun z => by cases z⟩
  rcases hw with rfl | rfl
  · exact g _
  · exact g _
theorem let_text {z : Str} {H : Hp} (wy : Wy) (hw : wy = .rkind ∨ wy = .rrow ∨ wy = .rkinds) (h : IsW z) : Let1 CK CR CP T wy (.str z) H := fun H1 e1 T1 Q E q _ => by
  have o : ofText z = .s z := ofText_text (.w z) h
  have k : isNoD (ofText z) = false := by rw [o]; rfl
  have n1 : 44 ∉ z.cps.toList := isW_no h (by omega)
  have n2 : 10 ∉ z.cps.toList := isW_no h (by omega)
  have r : RdOk z := ⟨fun c hc => by have := h.2.2 c hc; omega, by have := h.2.1; omega, .inl (by rw [List.count_eq_zero.mpr (isW_no h (by decide))]; omega)⟩
  have w : ∀ (y : Str) (c : Nat), c ∈ y.cps.toList → c ∉ z.cps.toList → (ofTexts y z).any isNoD = false := fun y c hy hz => by
    cases e : (ofTexts y z).any isNoD with
    | false => rfl
    | true =>
      obtain ⟨d, hd, hb⟩ := List.any_eq_true.mp e
      obtain ⟨p, hp, rfl⟩ := List.mem_map.mp hd
      rw [split_whole hy hz hp, k] at hb
      cases hb
  have w1 := w (", " : Str) 44 (by decide +kernel) n1
  have w2 := w ("\n" : Str) 10 (by decide +kernel) n2
  rcases hw with rfl | rfl | rfl
  · exact .inl ⟨z, rfl, r, T1, fun v H' e' T' _ _ => q rfl _ H' e' T', fun hn => by rw [k] at hn; cases hn⟩
  · exact .inl ⟨z, rfl, r, T1, fun L us H' e' T' _ _ _ _ => q rfl _ H' e' T', fun hn => by rw [w1] at hn; cases hn⟩
  · exact .inl ⟨z, rfl, r, T1, fun L us H' e' T' _ _ _ _ => q rfl _ H' e' T', fun hn => by rw [w2] at hn; cases hn⟩
def spLaw30 (K : Frag) (T : List (Addr × Str)) : Sp := fun vs H Q _ => ∃ (a : Addr) (ns : List Int), vs = [.ref a] ∧ SqL K H a (ns.map V.int) ∧ Tabs T H ∧ ∀ H', Q (.bl true) H'
theorem ok_law30 {f fPs fPl fD fK fS fT fF fE : Addr} {fd dPs dPl dD dK dS dT dF dE : FuncData} (T0 : Top K mg "law" sLaw pLaw f fd)
    (TPs : Top K mg "_law_purses" sLPurses ["script", "few"] fPs dPs) (GPs : FnOk P w_ K mg base CX0 2 fPs dPs ["script", "few"] (spPurses K)) (TPl : Top K mg "_law_plains" sLPlains pLPlains fPl dPl) (GPl : FnOk P w_ K mg base CX0 5 fPl dPl pLPlains spPlains)
    (TD : Top K mg "_law_draw" sLDraw ["purse", "many"] fD dD) (GD : FnOk P w_ K mg base CX0 2 fD dD ["purse", "many"] spDraw) (TK_ : Top K mg "_law_kind" sLKind pLKind fK dK) (GK : FnOk P w_ K mg base CX0 10 fK dK pLKind (spKind 6))
    (TS : Top K mg "_law_same" sLSame pLSame fS dS) (GS : FnOk P w_ K mg base CX0 13 fS dS pLSame (spSameO 12)) (TT : Top K mg "_law_told" sLTold pLTold fT dT) (GT : FnOk P w_ K mg base CX0 11 fT dT pLTold (spLTold CK CR CP T))
    (TF : Top K mg "_law_falls" sLFalls pLFalls fF dF) (GF : FnOk P w_ K mg base CX0 15 fF dF pLFalls (spLFalls T)) (TE : Top K mg "_law_exact" sLExact pLExact fE dE) (GE : FnOk P w_ K mg base CX0 13 fE dE pLExact (spExactO 12)) (B : Blt mg) : FnOk P w_ K mg base CX0 64 f fd pLaw (spLaw30 K T) := by
  refine T0.F.ok scLaw (fun vs H Q E h => ?_) (fun cdv A outer s H vs Q E hr h => ?_)
  · obtain ⟨_, _, rfl, _⟩ := h
    rfl
  · have hr2 : Room 2 _ := hr.mono (by decide)
    have hr5 : Room 5 _ := hr.mono (by decide)
    have hr10 : Room 10 _ := hr.mono (by decide)
    have hr11 : Room 11 _ := hr.mono (by decide)
    have hr13 : Room 13 _ := hr.mono (by decide)
    have hr15 : Room 15 _ := hr.mono (by decide)
    obtain ⟨a, ns, rfl, hS, hT, k⟩ := h
    refine ⟨_, (pss_cons (ps_for PassesOwn.never rfl (pi_list (pe_call GPs hr2 rfl TPs.g TPs.F.kp TPs.b .nil pass0 (pa_cons (pv 0) (pa_cons pe_int pa_nil)))) (pg_name (i := 1) scLaw.nd rfl (Or.inr rfl))
      (pss_cons (ps_set (i := 2) scLaw.nd rfl (Or.inr rfl) (pe_call GPl hr5 rfl TPl.g TPl.F.kp TPl.b .nil pass0 (pa_cons (pv 1) (pa_cons pe_int pa_nil))))
      (pss_cons (ps_par (i := 3) (j := 4) rfl scLaw.nd rfl rfl (by decide) rfl rfl (pa_cons (pe_call GK hr10 rfl TK_.g TK_.F.kp TK_.b .nil pass0 (pa_cons (pv 1) (pa_cons (pv 2) (pa_cons (pe_call GD hr2 rfl TD.g TD.F.kp TD.b .nil pass0 (pa_cons (pv 1) (pa_cons pe_int pa_nil))) pa_nil)))) (pa_cons (pe_lc (own := [("late", 8)]) (g := (gName 8)) (tt := tYes) rfl scLaw.nd (pi_range1 (by rfl) B.range (pa_cons pe_int pa_nil)) (blkOk_by (N := nLaw) (sc := defScope sLaw) (by decide +kernel)) (fun _ _ _ _ _ => pg_name (i := 8) scLaw.nd rfl (Or.inl rfl)) (fun _ _ _ _ _ => pts_nil) (fun _ _ _ _ _ => (pe_call GK hr10 rfl TK_.g TK_.F.kp TK_.b .nil pass0 (pa_cons (pv 1) (pa_cons (pv 2) (pa_cons (pv 8) pa_nil)))))) pa_nil)) (by rfl))
      (pss_cons (ps_set (i := 5) scLaw.nd rfl (Or.inl rfl) (pe_call GS hr13 rfl TS.g TS.F.kp TS.b .nil pass0 (pa_cons (pe_lst (pa_cons (pv 3) (pa_cons (pv 4) pa_nil))) pa_nil)))
      (pss_cons (ps_set (i := 6) scLaw.nd rfl (Or.inl rfl) (pe_lst (pa_cons (pe_tup (pa_cons pe_str (pa_cons (pv 3) pa_nil))) (pa_cons (pe_tup (pa_cons pe_str (pa_cons (pv 4) pa_nil))) (pa_cons (pe_tup (pa_cons pe_str (pa_cons (pv 4) pa_nil))) (pa_cons (pe_tup (pa_cons pe_str (pa_cons (pe_ix ix_list (pv 2) pe_int (fun _ _ => rfl)) pa_nil))) (pa_cons (pe_tup (pa_cons pe_str (pa_cons (pe_ix ix_list (pv 2) pe_int (fun _ _ => rfl)) pa_nil))) (pa_cons (pe_tup (pa_cons pe_str (pa_cons (pe_ix ix_list (pv 2) pe_int (fun _ _ => rfl)) pa_nil))) pa_nil))))))))
      (pss_cons (ps_for PassesOwn.never rfl (pi_range1 (by rfl) B.range (pa_cons pe_int pa_nil)) (pg_name (i := 7) scLaw.nd rfl (Or.inl rfl))
      (pss_cons (ps_if (pt_cmpR (op_neD (hu64 hr)) (pe_lc (own := [("way", 9), ("thing", 10)]) (g := (gTup K 2 (gCons (gName 9) (gCons (gName 10) gNil)))) rfl scLaw.nd (pi_list (pv 6)) (blkOk_by (N := nLaw) (sc := defScope sLaw) (by decide +kernel)) (fun _ _ _ _ _ => (pg_tup (by rfl) (pgs_cons (pg_name (i := 9) scLaw.nd rfl (Or.inl rfl)) (pgs_cons (pg_name (i := 10) scLaw.nd rfl (Or.inl rfl)) pgs_nil)))) (fun _ _ _ _ _ => pts_one (pt_cmpR op_ne (pe_ix (show IxR _ (rIxT K) from ix_tup) (pe_call GT hr11 rfl TT.g TT.F.kp TT.b .nil pass0 (pa_cons (pv 9) (pa_cons (pe_lst (pa_cons (pv 10) pa_nil)) pa_nil))) pe_int (fun _ _ => rfl)) pe_str (nomark _))) (fun _ _ _ _ _ => (pv 9))) (pe_lst pa_nil) (nomark _)) (pss_one (ps_ret pe_bl)) pss_nil)
      (pss_one (ps_if (PW.pt (pw_and (pt_cmpR op_eq (pv 7) pe_int (nomark _)) (pw_and1 (pt_not (pt_val (pe_call GF hr15 rfl TF.g TF.F.kp TF.b .nil pass0 (pa_cons (pe_ix ix_list (pv 2) pe_int (fun _ _ => rfl)) (pa_cons (pv 3) pa_nil)))))))) (pss_one (ps_ret pe_bl)) pss_nil))))
      (pss_one (ps_if (pt_not (pt_val (pe_call GE hr13 rfl TE.g TE.F.kp TE.b .nil pass0 (pa_cons (pe_lst (pa_cons (pv 3) (pa_cons (pv 4) pa_nil))) (pa_cons (pv 5) pa_nil))))) (pss_one (ps_ret pe_bl)) pss_nil))))))))
      (pss_one (ps_ret pe_bl))), ?_⟩
    have sz1 : 1 ≤ sizeLine := by rw [sizeLine_eq]; omega
    have sz2 : 2 ≤ sizeLine := by rw [sizeLine_eq]; omega
    have sz6 : 6 ≤ sizeLine := by rw [sizeLine_eq]; omega
    refine ⟨_, rfl, a, ns, rfl, hS, fun L0 p H1 s1 nL0 np nLp eL0 hp1 => ⟨L0, rfl, ⟨_, SqL.of eL0⟩, ?_⟩⟩
    refine for_list (K := K) (xs := [.ref p]) (fun i σ H' => ∃ (v1 v2 v3 v4 v5 v6 v7 v8 v9 v10 : Option V), σ = [some (.ref a), v1, v2, v3, v4, v5, v6, v7, v8, v9, v10] ∧ H' L0 = some (.lst [.ref p]) ∧ (i = 0 → PurseAt H' p 0 ∧ Tabs T H'))
      ⟨none, none, none, none, none, none, none, none, none, none, rfl, eL0, fun _ => ⟨hp1, hT.ext s1⟩⟩ (fun i σ H' _ ⟨_, _, _, _, _, _, _, _, _, _, _, e, _⟩ => SqL.of e) ?_ ?_
    · rintro i x σ H2 hx ⟨v1, v2, v3, v4, v5, v6, v7, v8, v9, v10, rfl, eL, hpT⟩
      obtain ⟨rfl, rfl⟩ : i = 0 ∧ x = .ref p := by
        match i, hx with
        | 0, hx => exact ⟨rfl, (Option.some.inj hx).symm⟩
        | n + 1, hx => exact absurd hx (by simp)
      obtain ⟨hp2, hT2⟩ := hpT rfl
      refine gN ⟨_, rfl, p, 0, 3, rfl, hp2, by omega, by omega, by omega, fun Lp zs H3 hz l3 kb3 nLp3 eLp hp3 => gN ?_⟩
      have eL3 := kb3 _ _ eL nLp
      have hT3 := tabs_kb hT2 hp2 kb3
      have neLp : Lp ≠ p := (hp2.ne nLp3).symm
      refine ⟨_, rfl, _, rfl, _, rfl, p, _, 4, rfl, hp3, by omega, by omega, by omega, fun d H4 d0 d1 off4 hp4 => ?_⟩
      have kb4 := KeepBut.of_off off4
      have eL4 := kb4 _ _ eL3 nLp
      have hT4 := tabs_kb hT3 hp3 kb4
      have eLp4 := kb4 _ _ eLp neLp
      obtain ⟨m, rfl⟩ := Int.eq_ofNat_of_zero_le d0
      refine ⟨p, Lp, _, m, zs, rfl, hp4, by omega, neLp, eLp4, hz, by omega, fun x t H5 hx ht hw kb5 hp5 => ?_⟩
      have eL5 := kb5 _ _ eL4 nLp
      have hT5 := tabs_kb hT4 hp4 kb5
      have eLp5 := kb5 _ _ eLp4 neLp
      refine ⟨3, rfl, by decide, by decide, fun D hD => ?_⟩
      have neD : D ≠ p := (hp5.ne hD).symm
      have hp5' := (hp5.upd (o := .lst []) neD.symm).mono (show _ ≤ 100 by omega)
      refine lc_range (lo := 0) (n := 3) (fun j H' => KeepBut p H5 H' ∧ PurseAt H' p (100 + 20 * j) ∧ ∃ us ts, H' D = some (.lst us) ∧ Tys H' us ts ∧ ts.length = j ∧ ∀ t ∈ ts, t.signs ≤ 2)
        ⟨(KeepBut.refl _ _).upd_new hD, hp5', [], [], upd_same, .nil, rfl, fun t h => by cases h⟩ ?_ ?_
      · rintro j H' hj ⟨kb, hp, us, ts, eD, hU, lt, hs⟩
        have lu := hU.length
        refine ⟨rfl, _, rfl, _, rfl, _, rfl, p, Lp, _, j, zs, by rw [Int.zero_add]; rfl, hp, by omega, neLp, kb _ _ eLp5 neLp, hz, by omega, fun y u H6 hy hu hw6 kb6 hp6 => ?_⟩
        have eD6 := kb6 _ _ eD neD
        have tk6 := TK.of_keepBut kb6 hp
        refine ⟨_, eD6, by rw [sizeLine_eq]; omega, ((kb.trans kb6).upd_new hD), (hp6.upd neD.symm).mono (by omega), us ++ [y], ts ++ [u], upd_same, ((hU.mono tk6).append (.cons hy .nil)).mono (TK.upd_lst eD6), by rw [List.length_append, lt]; rfl, fun t ht => ?_⟩
        rcases List.mem_append.mp ht with q | q
        · exact hs t q
        · rw [List.mem_singleton.mp q, hu]; omega
      · rintro H6 ⟨kb6, hp6, us, ts, eD, hU, lt, hs⟩
        refine ⟨_, _, rfl, ?_⟩
        have eL6 := kb6 _ _ eL5 nLp
        have hT6 := tabs_kb hT5 hp5 kb6
        have eLp6 := kb6 _ _ eLp5 neLp
        have hx6 := hx.mono (TK.of_keepBut kb6 hp5)
        clear kb6 eL5 hT5 eLp5 hx hp5' eL4 hT4 eLp4 kb4 off4 eL3 hT3 eLp kb3 eL hT2 hp2 hp3 hp4 hp5 hp6 kb5
        have lu := hU.length
        have m3 : m ≤ 3 := by omega
        obtain ⟨f1, f2, f3⟩ := obs_facts hs
        have dt := t.ob_dep
        refine ⟨_, rfl, _, rfl, sz2, fun L1 nL1 => ?_⟩
        have sA := same_upd (o := .lst [x, .ref D]) nL1
        have pair : ∀ (G : Hp) (M : Addr), TyAt G x t → G D = some (.lst us) → Tys G us ts → G M = none → OAt (upd G M (.lst [x, .ref D])) (.ref M) (.l [t.ob, .l (ts.map Ty.ob)]) := fun G M g1 g2 g3 g4 =>
          .l upd_same ((OsG.cons g1.ob (.cons (.l g2 (tys_ob (g3.mono (tk_rm g2)))) .nil) : OsAt G _ _).same (rm_new g4))
        have pw_ : (O.l [t.ob, .l (ts.map Ty.ob)]).wf = true := by simp [O.wf, owfAll, wf_ob, f1]; omega
        have pd_ : (O.l [t.ob, .l (ts.map Ty.ob)]).dep ≤ 12 := by simp only [O.dep, odepAll]; omega
        refine ⟨.ref L1, _, rfl, pair H6 L1 hx6 eD hU nL1, pw_, by simp [O.nod, onodAll, nod_ob, f2], pd_, fun vk H7 s7 hk => gN ?_⟩
        have s67 := sA.trans s7
        have eL7 := s67 _ _ eL6
        have hT7 := hT6.ext s67
        have eLp7 := s67 _ _ eLp6
        have hx7 := hx6.mono (TK.of_same s67)
        have eD7 := s67 _ _ eD
        have hU7 := hU.mono (TK.of_same s67)
        have hk7 := hk.same nw_sub
        obtain ⟨z0, zr, rfl⟩ : ∃ z0 zr, zs = z0 :: zr := by
          cases zs with
          | nil => have := hz.l1; simp at this
          | cons z0 zr => exact ⟨z0, zr, rfl⟩
        have hz0 := hz.w z0 List.mem_cons_self
        clear eL6 hT6 eLp6 hx6 eD hU hk s67 s7
        refine ⟨_, rfl, sz2, fun q1 n1 => ⟨_, rfl, sz2, fun q2 n2 => ⟨_, rfl, sz2, fun q3 n3 => ?_⟩⟩⟩
        have S1 := same_upd (o := .tup [.str "kind", x]) n1
        have S2 := same_upd (o := .tup [.str "row", .ref D]) n2
        have S3 := same_upd (o := .tup [.str "kinds", .ref D]) n3
        have E1 := upd_same (H := H7) (a := q1) (o := .tup [.str "kind", x])
        have E2 := upd_same (H := upd H7 q1 (.tup [.str "kind", x])) (a := q2) (o := .tup [.str "row", .ref D])
        have E3 := upd_same (H := upd (upd H7 q1 (.tup [.str "kind", x])) q2 (.tup [.str "row", .ref D])) (a := q3) (o := .tup [.str "kinds", .ref D])
        have E1 := S3 _ _ (S2 _ _ E1)
        have E2 := S3 _ _ E2
        have S := S1.trans (S2.trans S3)
        generalize upd (upd (upd H7 q1 (.tup [.str "kind", x])) q2 (.tup [.str "row", .ref D])) q3 (.tup [.str "kinds", .ref D]) = H8 at E1 E2 E3 S ⊢
        clear S1 S2 S3 n1 n2 n3
        refine ⟨_, rfl, Lp, _, _, _, rfl, rfl, SqL.of (S _ _ eLp7), atI_nat (j := 0) rfl, sz2, fun q4 n4 => ⟨_, rfl, Lp, _, _, _, rfl, rfl, SqL.of (same_upd n4 _ _ (S _ _ eLp7)), atI_nat (j := 0) rfl, sz2, fun q5 n5 => ⟨_, rfl, Lp, _, _, _, rfl, rfl, SqL.of (same_upd n5 _ _ (same_upd n4 _ _ (S _ _ eLp7))), atI_nat (j := 0) rfl, sz2, fun q6 n6 => ⟨sz6, fun L6 nL6 => gN ?_⟩⟩⟩⟩
        have S4 := same_upd (o := .tup [.str "readkind", .str z0]) n4
        have S5 := same_upd (o := .tup [.str "readrow", .str z0]) n5
        have S6 := same_upd (o := .tup [.str "readkinds", .str z0]) n6
        have S7 := same_upd (o := .lst [.ref q1, .ref q2, .ref q3, .ref q4, .ref q5, .ref q6]) nL6
        have E4 := S7 _ _ (S6 _ _ (S5 _ _ (upd_same (H := H8) (a := q4) (o := .tup [.str "readkind", .str z0]))))
        have E5 := S7 _ _ (S6 _ _ (upd_same (H := upd H8 q4 (.tup [.str "readkind", .str z0])) (a := q5) (o := .tup [.str "readrow", .str z0])))
        have E6 := S7 _ _ (upd_same (H := upd (upd H8 q4 (.tup [.str "readkind", .str z0])) q5 (.tup [.str "readrow", .str z0])) (a := q6) (o := .tup [.str "readkinds", .str z0]))
        have E7 := upd_same (H := upd (upd (upd H8 q4 (.tup [.str "readkind", .str z0])) q5 (.tup [.str "readrow", .str z0])) q6 (.tup [.str "readkinds", .str z0])) (a := L6) (o := .lst [.ref q1, .ref q2, .ref q3, .ref q4, .ref q5, .ref q6])
        have S47 := S4.trans (S5.trans (S6.trans S7))
        generalize upd (upd (upd (upd H8 q4 (.tup [.str "readkind", .str z0])) q5 (.tup [.str "readrow", .str z0])) q6 (.tup [.str "readkinds", .str z0])) L6 (.lst [.ref q1, .ref q2, .ref q3, .ref q4, .ref q5, .ref q6]) = H9 at E4 E5 E6 E7 S47 ⊢
        have E1 := S47 _ _ E1
        have E2 := S47 _ _ E2
        have E3 := S47 _ _ E3
        have S79 := S.trans S47
        clear S4 S5 S6 S7 n4 n5 n6 nL6 S47 S
        have eL9 := S79 _ _ eL7
        have hT9 := hT7.ext S79
        have eLp9 := S79 _ _ eLp7
        have hx9 := hx7.mono (TK.of_same S79)
        have eD9 := S79 _ _ eD7
        have hU9 := hU7.mono (TK.of_same S79)
        have hk9 := hk7.same S79
        clear eL7 hT7 eLp7 hx7 eD7 hU7 hk7 S79
        have tsz := t.size_signs
        have bd : ∀ u ∈ ts, u.d.dep ≤ 60 ∧ u.d.size ≤ 1000 ∧ u.size ≤ 1000 := fun u hu => by
          have a1 := u.dsize
          have a2 := u.size_signs
          have a3 := hs u hu
          omega
        have tsn : ts ≠ [] := fun z => by rw [z] at lt; cases lt
        have doors : ∀ (i : Nat) (u : V), [V.ref q1, .ref q2, .ref q3, .ref q4, .ref q5, .ref q6][i]? = some u → ∃ (q : Addr) (wy : Wy) (v : V), u = .ref q ∧ H9 q = some (.tup [.str wy.nm, v]) ∧ Let1 CK CR CP T wy v H9 := by
          intro i u hu
          match i, hu with
          | 0, hu => exact ⟨q1, .kind, x, (Option.some.inj hu).symm, E1, let_kind hx9 (by omega)⟩
          | 1, hu => exact ⟨q2, .row, .ref D, (Option.some.inj hu).symm, E2, let_row .row (.inl rfl) eD9 hU9 tsn (by omega) bd⟩
          | 2, hu => exact ⟨q3, .kinds, .ref D, (Option.some.inj hu).symm, E3, let_row .kinds (.inr rfl) eD9 hU9 tsn (by omega) bd⟩
          | 3, hu => exact ⟨q4, .rkind, .str z0, (Option.some.inj hu).symm, E4, let_text .rkind (.inl rfl) hz0⟩
          | 4, hu => exact ⟨q5, .rrow, .str z0, (Option.some.inj hu).symm, E5, let_text .rrow (.inr (.inl rfl)) hz0⟩
          | 5, hu => exact ⟨q6, .rkinds, .str z0, (Option.some.inj hu).symm, E6, let_text .rkinds (.inr (.inr rfl)) hz0⟩
          | n + 6, hu => exact absurd hu (by simp)
        refine ⟨2, rfl, by omega, by omega, ?_⟩
        refine for_range (lo := 0) (n := 2) (fun l σ H' => ∃ (v7 v8 v9 v10 : Option V), σ = [some (.ref a), some (.ref p), some (.ref Lp), some x, some (.ref D), some vk, some (.ref L6), v7, v8, v9, v10] ∧ ExtN H9 H' ∧ Tabs T H')
          ⟨_, _, _, _, rfl, ExtN.refl _, hT9⟩ ?_ ?_
        · rintro l σ H10 hl ⟨v7, v8, v9, v10, rfl, e10, T10⟩
          refine gN ⟨_, rfl, L6, rfl, ⟨_, SqL.of (extn_lst e10 E7)⟩, fun D2 hD2 => ?_⟩
          refine lc_list (K := K) (xs := [V.ref q1, .ref q2, .ref q3, .ref q4, .ref q5, .ref q6]) (fun i H' => ExtN H10 H' ∧ Tabs T H' ∧ H' D2 = some (.lst [])) ⟨extn_same (same_upd hD2), T10.ext (same_upd hD2), upd_same⟩ (fun i H' _ q => SqL.of (extn_lst q.1 (extn_lst e10 E7))) ?_ ?_
          · rintro i y H11 hy ⟨e11, T11, eD2⟩
            obtain ⟨q, wy, v, rfl, eq, le⟩ := doors i y hy
            have e911 := e10.trans e11
            have le11 := le.ext e911
            refine ⟨q, _, rfl, SqT.of (e911 _ _ eq fun ps z => by cases z), rfl, _, _, rfl, _, _, rfl, rfl, rfl, ?_⟩
            refine ⟨_, rfl, _, rfl, sz1, fun M nM => ?_⟩
            have sM := same_upd (o := .lst [v]) nM
            refine ⟨wy, M, v, none, rfl, upd_same, T11.ext sM, fun G sG => le11 G (extn_same (sM.trans sG)) ((T11.ext sM).ext sG), fun _ p2 u1 u2 u3 H12 e12 T12 hp12 => ?_, fun x z => by cases z⟩
            refine ⟨p2, _, _, _, rfl, rfl, SqT.of hp12, atI_nat (j := 0) rfl, rfl, false, congrArg V.bl (by rw [decide_eq_true rfl]; rfl), ?_⟩
            have e1112 := (extn_same sM).trans e12
            exact iteF ⟨e11.trans e1112, T12, extn_lst e1112 eD2⟩
          · rintro H11 ⟨e11, T11, eD2⟩
            refine ⟨by show 0 ≤ sizeLine; exact Nat.zero_le _, fun M nM => ?_⟩
            have sM := same_upd (o := .lst []) nM
            refine ⟨.list [], .list [], .lst (SqL.of (sM _ _ eD2)) .nil, .lst (SqL.of upd_same) .nil, by decide +kernel, by decide +kernel, false, by decide +kernel, iteF ?_⟩
            have e1112 := e11.trans (extn_same sM)
            have T12 := T11.ext sM
            have e912 := e10.trans e1112
            match l, hl with
            | 0, _ =>
              refine ⟨_, rfl, rfl, true, congrArg V.bl (decide_eq_true rfl), iteT ⟨_, rfl, Lp, _, _, _, rfl, rfl, SqL.of (extn_lst e912 eLp9), atI_nat (j := 0) rfl, _, rfl, z0, x, t, rfl, hz0, hx9.mono (extn_tk e912), by omega, T12, fun H13 e13 T13 => ⟨true, rfl, iteF ?_⟩⟩⟩
              exact ⟨_, _, _, _, rfl, e912.trans e13, T13⟩
            | 1, _ =>
              refine ⟨_, rfl, rfl, false, congrArg V.bl (decide_eq_false fun z => by injection z with z; omega), iteF (iteF ?_)⟩
              exact ⟨_, _, _, _, rfl, e912, T12⟩
            | n + 2, h => omega
        · rintro σ H10 ⟨v7, v8, v9, v10, rfl, e10, T10⟩
          refine ⟨_, rfl, _, rfl, sz2, fun L9 nL9 => ⟨_, rfl, .ref L9, vk, _, rfl, pair H10 L9 (hx9.mono (extn_tk e10)) (extn_lst e10 eD9) (hU9.mono (extn_tk e10)) nL9, ((hk9.ext e10).same (same_upd nL9)).r1, pw_, pd_, fun H11 s11 => ⟨true, rfl, iteF ?_⟩⟩⟩
          exact ⟨_, _, _, _, _, _, _, _, _, _, rfl, s11 _ _ (same_upd nL9 _ _ (extn_lst e10 eL9)), fun z => by cases z⟩
    · rintro σ H2 ⟨v1, v2, v3, v4, v5, v6, v7, v8, v9, v10, rfl, eL, _⟩
      exact k H2
end
end V2

namespace V2
open PySem PySem.Spec PyProof.Rows L2 LamX KT K1
open PySem.W (Frag)
section
variable {K : Frag} {h : Heap} {mg : Str → Option Value}
theorem err_mk {x nm q qI : Str} {C N fI T : Addr} {bs bm : List Value} {sn : List Str} {sub : List Value} {ab : Bool} {col : Option Bool} {dd : Option Addr} {m0 m1 m2 m3 m5 : Option Value} {od an oT : Option Addr} {sl sT : Array (Option Value)} {oc kV dc pm cd ct cT : Value} {p1 p2 p3 q1 q2 q3 q4 : Pos} {n : Nat}
    (X : K.In h) (G : h.Ns mainGlobals mg) (aC : PySem.W.nsIn K mainGlobals x = some (some (.ref C))) (xL : K.lookup C = some (excClassObj nm q C N bs bm true sn sub ab col dd m0 m1 m2 m3 m5 "ValueError.__new__"))
    (iC : PySem.W.findIn K (.ref C) "__init__" = some (some (.ref fI))) (lI : K.lookup fI = some ⟨oc, od, .func (PySem.W.fnOf "__init__" qI (eA p1 p2 p3) (eB q1 q2 q3 q4) eS (.ref T) kV dc pm an cd ct), sl⟩) (cI : PySem.W.codeIn K cd qI = true)
    (lT : K.lookup T = some ⟨cT, oT, .seq #[.none] n, sT⟩) (hbm : PySem.HandSPX.refsVE bm = true)
    (sa : PySem.W.findIn K (.ref C) "__setattr__" = some (some (.builtin "object.__setattr__"))) (tC : PySem.W.typeIn K (.ref C) = some (.type "type")) (kC : PySem.W.keepIn K (.ref C) = true) (tI : PySem.W.typeIn K (.ref fI) = some (.type "function"))
    (no : PySem.W.findIn K (.ref C) "value" = some none) (xf : XfC K C) : ErrC K mg x C fI where
  gC := PySem.W.mg_of X G aC
  ox := ⟨⟨nm, q, N, bs, bm, sn, sub, ab, col, dd, m0, m1, m2, m3, m5, xL, hbm⟩, sa, xf.exC, tC, kC⟩
  ga := xf.ga
  gg := xf.gg
  hd := xf.hdC
  noN := no
  iC := iC
  tI := tI
  fn := ⟨oc, od, kV, dc, pm, an, cd, ct, sl, p1, p2, p3, q1, q2, q3, q4, qI, T, _, n, lI, cI, lT, rfl⟩
theorem gtx_mk {t1 t2 : Tok} (X : K.In h) (G : h.Ns mainGlobals mg) (a : PySem.W.nsIn K mainGlobals "_BETWEEN" = some (some (.str (", " : Str) t1))) (b : PySem.W.nsIn K mainGlobals "_LINE_END" = some (some (.str ("\n" : Str) t2))) : Gtx mg := ⟨⟨t1, PySem.W.mg_of X G a⟩, ⟨t2, PySem.W.mg_of X G b⟩⟩
def excB (K : Frag) (C : Addr) : Bool := xfB K C && (decide (PySem.W.findIn K (.ref C) "__class__" = some (some (.builtin "object.__class__"))) && (decide (PySem.W.specialIn K (.builtin "object.__class__") "__get__" = some (some (.builtin "getset_descriptor.__get__"))) &&
  (decide (PySem.W.takesIn K (.builtin "object.__class__") = some true) && decide (PySem.W.mroIn K C (.type "object") = some true))))
theorem excB_ok {C : Addr} (e : excB K C = true) : XfC K C ∧ ExcC K C := by
  obtain ⟨h1, e⟩ := Bool.and_eq_true_iff.mp e
  obtain ⟨h2, e⟩ := Bool.and_eq_true_iff.mp e
  obtain ⟨h3, e⟩ := Bool.and_eq_true_iff.mp e
  obtain ⟨h4, h5⟩ := Bool.and_eq_true_iff.mp e
  have x := xfB_ok h1
  exact ⟨x, ⟨x.ga, x.gg, x.exC, x.hdC, of_decide_eq_true h2, of_decide_eq_true h3, of_decide_eq_true h4, of_decide_eq_true h5⟩⟩
end
end V2
namespace V2
open PySem PySem.Spec PyProof.Rows L2 LamX KT K1
open PySem.W (Frag)
theorem ecs_mk {K : Frag} {mg : Str → Option Value} {CK CR CP BP f1 f2 f3 : Addr} (_c1 : ErrC K mg "InvalidKind" CK f1) (_c2 : ErrC K mg "InvalidRow" CR f2) (_c3 : ErrC K mg "InvalidPaper" CP f3) (g : mg "PhraseError" = some (.ref BP)) (b : mg "ValueError" = none)
    (m : ∀ x y : Er, PySem.W.exmOne K (.ref (x.at_ CK CR CP)) (.ref (y.at_ CK CR CP)) = some (decide (x = y))) (e : ∀ x : Er, excB K (x.at_ CK CR CP) = true) (n : ∀ x : Er, PySem.W.findIn K (.ref (x.at_ CK CR CP)) "value" = some none)
    (p : ∀ x : Er, PySem.W.kitOne K (.ref (x.at_ CK CR CP)) (.ref BP) = some true) (v : ∀ x : Er, PySem.W.kitOne K (.ref (x.at_ CK CR CP)) (.type "ValueError") = some true) : Ecs K mg CK CR CP BP :=
  ⟨m, fun x => ⟨(excB_ok (e x)).1, (excB_ok (e x)).2, n x⟩, p, v, g, b⟩
end V2

namespace V2
open PySem PySem.Spec PyProof.Rows L2 NdefX LamX KT
open PySem.W (Frag)
section
variable {K : Frag} {h : Heap} {mg : Str → Option Value}
theorem top_mk {x : Str} {st : Stmt} {ps : List Str} {f : Addr} {od an : Option Addr} {sl : Array (Option Value)} {oc kV dc pm cd ct : Value} (X : K.In h) (G : h.Ns mainGlobals mg) (a : PySem.W.nsIn K mainGlobals x = some (some (.ref f)))
    (l : K.lookup f = some ⟨oc, od, .func (PySem.W.fnOf x x (L2.defArgs st) (L2.defBody st) (L2.defScope st) .none kV dc pm an cd ct), sl⟩) (c : PySem.W.codeIn K cd x = true) (k : PySem.W.keepIn K (.ref f) = true)
    (b : ∀ (kV doc pm : Value) (an : Option Addr) (cdv ct : Value) (us : List Value), us.length = ps.length → bindArgs (PySem.W.fnOf x x (L2.defArgs st) (L2.defBody st) (L2.defScope st) .none kV doc pm an cdv ct) ⟨us, []⟩ = pure (ps.zip us)) :
    Top K mg x st ps f (PySem.W.fnOf x x (L2.defArgs st) (L2.defBody st) (L2.defScope st) .none kV dc pm an cd ct) := by
  have F := L2.fun_mk (x := x) (qual := x) (st := st) l c k
  exact ⟨F, PySem.W.mg_of X G a, F.binds b⟩
theorem topC_mk {x : Str} {st : Stmt} {ps : List Str} {f c : Addr} {od an : Option Addr} {sl : Array (Option Value)} {oc kV dc pm ct : Value} (X : K.In h) (G : h.Ns mainGlobals mg) (a : PySem.W.nsIn K mainGlobals x = some (some (.ref f)))
    (l : K.lookup f = some ⟨oc, od, .func (PySem.W.fnOf x x (L2.defArgs st) (L2.defBody st) (L2.defScope st) .none kV dc pm an (.ref c) ct), sl⟩) (hc : PySem.W.codeIn K (.ref c) x = true) (k : PySem.W.keepIn K (.ref f) = true)
    (b : ∀ (kV doc pm : Value) (an : Option Addr) (cdv ct : Value) (us : List Value), us.length = ps.length → bindArgs (PySem.W.fnOf x x (L2.defArgs st) (L2.defBody st) (L2.defScope st) .none kV doc pm an cdv ct) ⟨us, []⟩ = pure (ps.zip us)) :
    TopC K mg x st ps f (PySem.W.fnOf x x (L2.defArgs st) (L2.defBody st) (L2.defScope st) .none kV dc pm an (.ref c) ct) c := ⟨top_mk X G a l hc k b, oc, od, kV, dc, pm, an, ct, sl, rfl, l, hc⟩
theorem gbl_mk {t : Tok} {a : Addr} {od : Option Addr} {sl : Array (Option Value)} {t1 t2 t3 : Tok} {n : Nat} (X : K.In h) (G : h.Ns mainGlobals mg) (l : PySem.W.nsIn K mainGlobals "_LETTERS" = some (some (.str abc t))) (s : PySem.W.nsIn K mainGlobals "_SIGNS" = some (some (.ref a)))
    (k : K.lookup a = some ⟨.type "tuple", od, .seq #[.str "over" t1, .str "then" t2, .str "under" t3] n, sl⟩) : Gbl K mg :=
  ⟨⟨t, PySem.W.mg_of X G l⟩, a, PySem.W.mg_of X G s, .inr ⟨_, _, _, k, rfl, rfl, by show 3 ≤ sizeLine; rw [sizeLine_eq]; omega, .cons ⟨_, rfl⟩ (.cons ⟨_, rfl⟩ (.cons ⟨_, rfl⟩ .nil))⟩⟩
theorem tb1_mk {base : Heap} {c P : Addr} {q : Str} {T : List (Addr × Str)} (b : TabB base mg c P) (m : (T.any fun p => p.1 == P && p.2 == q) = true) (u : (T.all fun p => p.1 != P || p.2 == q) = true) : Tb1 base mg T c P q := by
  refine ⟨b, ?_, fun p hp e => ?_⟩
  · obtain ⟨p, h1, h2⟩ := List.any_eq_true.mp m
    simp only [Bool.and_eq_true, beq_iff_eq] at h2
    obtain ⟨a, d⟩ := p
    obtain ⟨rfl, rfl⟩ := h2
    exact h1
  · have := List.all_eq_true.mp u p hp
    simp only [Bool.or_eq_true, bne_iff_ne, ne_eq, beq_iff_eq] at this
    exact this.resolve_left fun n => n e
theorem end_mk {l : PySem.W.OpenLaw} {w : World} {fa : Addr} {fd : FuncData} {C : List (Addr × Addr)} {T : List (Addr × Str)} (_T : Top K mg "law" sLaw pLaw fa fd) (hT : ∀ p ∈ C, h.get? p.2 = some (PySem.W.tabObj #[])) (nA : ∀ p ∈ C, K.lookup p.2 = none)
    (CA : ∀ p ∈ C, PySem.W.CodeHd h p.1 p.2) (hTC : ∀ p ∈ T, ∃ q ∈ C, q.2 = p.1) (hb : ∀ (s : Shared) (u : Value), BindsTo s fd ⟨[u], []⟩ [("script", u)])
    (F : ∀ base : Heap, (∀ p ∈ C, TabB base mg p.1 p.2) → FnOk l.prog w K mg base L2.CX0 64 fa fd ["script"] (spLaw30 K T)) : LawAtS l w K L2.CX0 64 63 "script" mg fa h := by
  refine ⟨fd, C, spLaw30 K T, hT, nA, CA, hb, fun H a ns _ _ hH hS => ⟨a, ns, rfl, hS, fun p hp => ?_, fun _ => rfl⟩, fun base _ _ TB => F base fun p hp => TB p hp⟩
  obtain ⟨q, hq, e⟩ := hTC p hp
  rw [← e]
  exact TabS.nil (hH q hq)
end
end V2


open PySem PySem.W PyProof.Rows
set_option maxRecDepth 100000 in
set_option maxHeartbeats 0 in
theorem PySem.Challenge.cw_phrasejoins_k30_texts_refused_and_by_nam_holds : PySem.Challenge.rw_phrasejoins_k30_texts_refused_and_by_nam.Holds := by
  w_on; o_law; k_head; (case hw => w_witness2)
  k_fill
  refine LamX.walk_ofTs (l := PySem.Challenge.rw_phrasejoins_k30_texts_refused_and_by_nam) (n := 63) (k := 64) (x := "script") (CX := fun _ => L2.CX0) rfl (by decide) rfl ⟨rfl, by decide, by decide⟩ (fun w h Y => PySem.W.km_in_of Y) ?F (fun _ _ _ _ _ h => h)
  case F =>
    intro w mg fa h Y KX G hmg
    have hT8 := PySem.W.km_tabs_of Y

    have TNodesIn := V2.top_mk (x := "nodes_in") (st := V2.sNodesIn) (ps := V2.pNodesIn) KX G (by k_is) (by k_is) (by k_is) (by k_is) (fun _ _ _ _ _ _ us hl => match us, hl with | [_, _], _ => rfl)
    have TFromInside := V2.topC_mk (x := "from_inside") (st := V2.sFromInside) (ps := V2.pFromInside) KX G (by k_is) (by k_is) (by k_is) (by k_is) (fun _ _ _ _ _ _ us hl => match us, hl with | [_, _, _], _ => rfl)
    have TIsWord := V2.top_mk (x := "is_word") (st := V2.sIsWord) (ps := V2.pIsWord) KX G (by k_is) (by k_is) (by k_is) (by k_is) (fun _ _ _ _ _ _ us hl => match us, hl with | [_], _ => rfl)
    have TIsSigned := V2.top_mk (x := "_is_signed") (st := V2.sIsSigned) (ps := V2.pIsSigned) KX G (by k_is) (by k_is) (by k_is) (by k_is) (fun _ _ _ _ _ _ us hl => match us, hl with | [_], _ => rfl)
    have TIsKind := V2.top_mk (x := "is_kind") (st := V2.sIsKind) (ps := V2.pIsKind) KX G (by k_is) (by k_is) (by k_is) (by k_is) (fun _ _ _ _ _ _ us hl => match us, hl with | [_], _ => rfl)
    have TCheckKind := V2.top_mk (x := "check_kind") (st := V2.sCheckKind) (ps := V2.pCheckKind) KX G (by k_is) (by k_is) (by k_is) (by k_is) (fun _ _ _ _ _ _ us hl => match us, hl with | [_], _ => rfl)
    have TPartsOf := V2.top_mk (x := "_parts_of") (st := V2.sPartsOf) (ps := V2.pPartsOf) KX G (by k_is) (by k_is) (by k_is) (by k_is) (fun _ _ _ _ _ _ us hl => match us, hl with | [_], _ => rfl)
    have TFolded := V2.topC_mk (x := "folded") (st := V2.sFolded) (ps := V2.pFolded) KX G (by k_is) (by k_is) (by k_is) (by k_is) (fun _ _ _ _ _ _ us hl => match us, hl with | [_, _, _], _ => rfl)
    have TAreKinds := V2.top_mk (x := "are_kinds") (st := V2.sAreKinds) (ps := V2.pAreKinds) KX G (by k_is) (by k_is) (by k_is) (by k_is) (fun _ _ _ _ _ _ us hl => match us, hl with | [_], _ => rfl)
    have TIsRow := V2.top_mk (x := "is_row") (st := V2.sIsRow) (ps := V2.pIsRow) KX G (by k_is) (by k_is) (by k_is) (by k_is) (fun _ _ _ _ _ _ us hl => match us, hl with | [_], _ => rfl)
    have TCheckRow := V2.top_mk (x := "check_row") (st := V2.sCheckRow) (ps := V2.pCheckRow) KX G (by k_is) (by k_is) (by k_is) (by k_is) (fun _ _ _ _ _ _ us hl => match us, hl with | [_], _ => rfl)
    have TTextOf := V2.topC_mk (x := "_text_of") (st := V2.sTextOf) (ps := V2.pTextOf) KX G (by k_is) (by k_is) (by k_is) (by k_is) (fun _ _ _ _ _ _ us hl => match us, hl with | [_], _ => rfl)
    have TKindText := V2.top_mk (x := "kind_text") (st := V2.sKindText) (ps := V2.pKindText) KX G (by k_is) (by k_is) (by k_is) (by k_is) (fun _ _ _ _ _ _ us hl => match us, hl with | [_], _ => rfl)
    have TPutTogether := V2.top_mk (x := "_put_together") (st := V2.sPutTogether) (ps := V2.pPutTogether) KX G (by k_is) (by k_is) (by k_is) (by k_is) (fun _ _ _ _ _ _ us hl => match us, hl with | [_], _ => rfl)
    have TKindTold := V2.top_mk (x := "kind_told") (st := V2.sKindTold) (ps := V2.pKindTold) KX G (by k_is) (by k_is) (by k_is) (by k_is) (fun _ _ _ _ _ _ us hl => match us, hl with | [_], _ => rfl)
    have TKindsTold := V2.top_mk (x := "_kinds_told") (st := V2.sKindsTold) (ps := V2.pKindsTold) KX G (by k_is) (by k_is) (by k_is) (by k_is) (fun _ _ _ _ _ _ us hl => match us, hl with | [_, _], _ => rfl)
    have TReadKind := V2.top_mk (x := "read_kind") (st := V2.sReadKind) (ps := V2.pReadKind) KX G (by k_is) (by k_is) (by k_is) (by k_is) (fun _ _ _ _ _ _ us hl => match us, hl with | [_], _ => rfl)
    have TRowText := V2.top_mk (x := "row_text") (st := V2.sRowText) (ps := V2.pRowText) KX G (by k_is) (by k_is) (by k_is) (by k_is) (fun _ _ _ _ _ _ us hl => match us, hl with | [_], _ => rfl)
    have TReadRow := V2.top_mk (x := "read_row") (st := V2.sReadRow) (ps := V2.pReadRow) KX G (by k_is) (by k_is) (by k_is) (by k_is) (fun _ _ _ _ _ _ us hl => match us, hl with | [_], _ => rfl)
    have TKindsText := V2.top_mk (x := "kinds_text") (st := V2.sKindsText) (ps := V2.pKindsText) KX G (by k_is) (by k_is) (by k_is) (by k_is) (fun _ _ _ _ _ _ us hl => match us, hl with | [_], _ => rfl)
    have TReadKinds := V2.top_mk (x := "read_kinds") (st := V2.sReadKinds) (ps := V2.pReadKinds) KX G (by k_is) (by k_is) (by k_is) (by k_is) (fun _ _ _ _ _ _ us hl => match us, hl with | [_], _ => rfl)
    have TLPurse := V2.top_mk (x := "_law_purse") (st := V2.sLPurse) (ps := V2.pLPurse) KX G (by k_is) (by k_is) (by k_is) (by k_is) (fun _ _ _ _ _ _ us hl => match us, hl with | [_, _], _ => rfl)
    have TLMixed := V2.top_mk (x := "_law_mixed") (st := V2.sLMixed) (ps := V2.pLMixed) KX G (by k_is) (by k_is) (by k_is) (by k_is) (fun _ _ _ _ _ _ us hl => match us, hl with | [_, _, _], _ => rfl)
    have TLDraw := V2.top_mk (x := "_law_draw") (st := V2.sLDraw) (ps := V2.pLDraw) KX G (by k_is) (by k_is) (by k_is) (by k_is) (fun _ _ _ _ _ _ us hl => match us, hl with | [_, _], _ => rfl)
    have TLPurses := V2.top_mk (x := "_law_purses") (st := V2.sLPurses) (ps := V2.pLPurses) KX G (by k_is) (by k_is) (by k_is) (by k_is) (fun _ _ _ _ _ _ us hl => match us, hl with | [_, _], _ => rfl)
    have TLOneOf := V2.top_mk (x := "_law_one_of") (st := V2.sLOneOf) (ps := V2.pLOneOf) KX G (by k_is) (by k_is) (by k_is) (by k_is) (fun _ _ _ _ _ _ us hl => match us, hl with | [_, _], _ => rfl)
    have TLSame := V2.top_mk (x := "_law_same") (st := V2.sLSame) (ps := V2.pLSame) KX G (by k_is) (by k_is) (by k_is) (by k_is) (fun _ _ _ _ _ _ us hl => match us, hl with | [_], _ => rfl)
    have TLExact := V2.top_mk (x := "_law_exact") (st := V2.sLExact) (ps := V2.pLExact) KX G (by k_is) (by k_is) (by k_is) (by k_is) (fun _ _ _ _ _ _ us hl => match us, hl with | [_, _], _ => rfl)
    have TLWord := V2.top_mk (x := "_law_word") (st := V2.sLWord) (ps := V2.pLWord) KX G (by k_is) (by k_is) (by k_is) (by k_is) (fun _ _ _ _ _ _ us hl => match us, hl with | [_], _ => rfl)
    have TLWords := V2.top_mk (x := "_law_words") (st := V2.sLWords) (ps := V2.pLWords) KX G (by k_is) (by k_is) (by k_is) (by k_is) (fun _ _ _ _ _ _ us hl => match us, hl with | [_, _], _ => rfl)
    have TLPlains := V2.top_mk (x := "_law_plains") (st := V2.sLPlains) (ps := V2.pLPlains) KX G (by k_is) (by k_is) (by k_is) (by k_is) (fun _ _ _ _ _ _ us hl => match us, hl with | [_, _], _ => rfl)
    have TLKind := V2.top_mk (x := "_law_kind") (st := V2.sLKind) (ps := V2.pLKind) KX G (by k_is) (by k_is) (by k_is) (by k_is) (fun _ _ _ _ _ _ us hl => match us, hl with | [_, _, _], _ => rfl)
    have TLOddKinds := V2.top_mk (x := "_law_odd_kinds") (st := V2.sLOddKinds) (ps := V2.pLOddKinds) KX G (by k_is) (by k_is) (by k_is) (by k_is) (fun _ _ _ _ _ _ us hl => match us, hl with | [_], _ => rfl)
    have TLOddRows := V2.top_mk (x := "_law_odd_rows") (st := V2.sLOddRows) (ps := V2.pLOddRows) KX G (by k_is) (by k_is) (by k_is) (by k_is) (fun _ _ _ _ _ _ us hl => match us, hl with | [_], _ => rfl)
    have TLAsked := V2.top_mk (x := "_law_asked") (st := V2.sLAsked) (ps := V2.pLAsked) KX G (by k_is) (by k_is) (by k_is) (by k_is) (fun _ _ _ _ _ _ us hl => match us, hl with | [_, _], _ => rfl)
    have TLTold := V2.top_mk (x := "_law_told") (st := V2.sLTold) (ps := V2.pLTold) KX G (by k_is) (by k_is) (by k_is) (by k_is) (fun _ _ _ _ _ _ us hl => match us, hl with | [_, _], _ => rfl)
    have TLVery := V2.top_mk (x := "_law_very") (st := V2.sLVery) (ps := V2.pLVery) KX G (by k_is) (by k_is) (by k_is) (by k_is) (fun _ _ _ _ _ _ us hl => match us, hl with | [_, _, _], _ => rfl)
    have TLFalls := V2.top_mk (x := "_law_falls") (st := V2.sLFalls) (ps := V2.pLFalls) KX G (by k_is) (by k_is) (by k_is) (by k_is) (fun _ _ _ _ _ _ us hl => match us, hl with | [_, _], _ => rfl)
    have TLaw := V2.top_mk (x := "law") (st := V2.sLaw) (ps := V2.pLaw) KX G (by k_is) (by k_is) (by k_is) (by k_is) (fun _ _ _ _ _ _ us hl => match us, hl with | [_], _ => rfl)
    have E := hmg.symm.trans TLaw.g
    cases E
    have B : V2.Blt mg := ⟨PySem.W.mg_none_of KX G (by k_is), PySem.W.mg_none_of KX G (by k_is), PySem.W.mg_none_of KX G (by k_is), PySem.W.mg_none_of KX G (by k_is), PySem.W.mg_none_of KX G (by k_is), PySem.W.mg_none_of KX G (by k_is), PySem.W.mg_none_of KX G (by k_is), PySem.W.mg_none_of KX G (by k_is), PySem.W.mg_none_of KX G (by k_is), PySem.W.mg_none_of KX G (by k_is), PySem.W.mg_none_of KX G (by k_is), PySem.W.mg_none_of KX G (by k_is), PySem.W.mg_none_of KX G (by k_is), PySem.W.mg_none_of KX G (by k_is), PySem.W.mg_none_of KX G (by k_is), PySem.W.mg_none_of KX G (by k_is), PySem.W.mg_none_of KX G (by k_is)⟩
    have GG : V2.Gbl _ mg := V2.gbl_mk KX G (by k_is) (by k_is) (by k_is)
    have GX : V2.Gtx mg := V2.gtx_mk KX G (by k_is) (by k_is)
    have cK := V2.err_mk (x := "InvalidKind") KX G (by k_is) (by k_is) (by k_is) (by k_is) (by k_is) (by k_is) (by rfl) (by k_is) (by k_is) (by k_is) (by k_is) (by k_is) (V2.excB_ok (by kernel_rfl)).1
    have cR := V2.err_mk (x := "InvalidRow") KX G (by k_is) (by k_is) (by k_is) (by k_is) (by k_is) (by k_is) (by rfl) (by k_is) (by k_is) (by k_is) (by k_is) (by k_is) (V2.excB_ok (by kernel_rfl)).1
    have cP := V2.err_mk (x := "InvalidPaper") KX G (by k_is) (by k_is) (by k_is) (by k_is) (by k_is) (by k_is) (by rfl) (by k_is) (by k_is) (by k_is) (by k_is) (by k_is) (V2.excB_ok (by kernel_rfl)).1
    refine V2.end_mk (C := [(141, 137), (167, 163)]) (T := [(137, "folded.<locals>.at_part"), (163, "_text_of.<locals>.<lambda>")]) TLaw
      (fun p hp => hT8 p.2 (by simp only [List.mem_cons, List.not_mem_nil, or_false] at hp ⊢; rcases hp with rfl | rfl <;> simp))
      (fun p hp => by simp only [List.mem_cons, List.not_mem_nil, or_false] at hp; rcases hp with rfl | rfl <;> kernel_rfl)
      (fun p hp => by simp only [List.mem_cons, List.not_mem_nil, or_false] at hp; rcases hp with rfl | rfl <;> exact PySem.W.codeHd_of_K KX (by kernel_rfl))
      (fun p hp => by
        simp only [List.mem_cons, List.not_mem_nil, or_false] at hp
        rcases hp with rfl | rfl
        · exact ⟨(141, 137), by simp, rfl⟩
        · exact ⟨(167, 163), by simp, rfl⟩) (fun s u => .of_eq rfl) (fun base TB => ?_)
    have tF : V2.Tb1 base mg _ 141 137 "folded.<locals>.at_part" := V2.tb1_mk (T := [(137, "folded.<locals>.at_part"), (163, "_text_of.<locals>.<lambda>")]) (TB (141, 137) (by simp)) (by decide +kernel) (by decide +kernel)
    have tT : V2.Tb1 base mg _ 167 163 "_text_of.<locals>.<lambda>" := V2.tb1_mk (T := [(137, "folded.<locals>.at_part"), (163, "_text_of.<locals>.<lambda>")]) (TB (167, 163) (by simp)) (by decide +kernel) (by decide +kernel)
    have EC := V2.ecs_mk cK cR cP (PySem.W.mg_of KX G (by k_is)) (PySem.W.mg_none_of KX G (by k_is)) (fun x y => (by cases x <;> cases y <;> kernel_rfl)) (fun x => (by cases x <;> kernel_rfl)) (fun x => (by cases x <;> kernel_rfl)) (fun x => (by cases x <;> kernel_rfl)) (fun x => (by cases x <;> kernel_rfl))
    have gIsKind := V2.ok_isKindD (P := PySem.Challenge.rw_phrasejoins_k30_texts_refused_and_by_nam.prog) (w := w) (base := base) TIsKind TIsSigned TIsWord B GG
    have gIsKindA := V2.ok_isKindA (P := PySem.Challenge.rw_phrasejoins_k30_texts_refused_and_by_nam.prog) (w := w) (base := base) TIsKind TIsSigned TIsWord B GG
    have gCK := V2.ok_checkKindA (P := PySem.Challenge.rw_phrasejoins_k30_texts_refused_and_by_nam.prog) (w := w) (base := base) TCheckKind TIsKind gIsKindA cK
    have gAre := V2.ok_areKindsA (P := PySem.Challenge.rw_phrasejoins_k30_texts_refused_and_by_nam.prog) (w := w) (base := base) TAreKinds TIsKind gIsKindA B
    have gIsRow := V2.ok_isRowA (P := PySem.Challenge.rw_phrasejoins_k30_texts_refused_and_by_nam.prog) (w := w) (base := base) TIsRow TAreKinds gAre B
    have gCR := V2.ok_checkRowA (P := PySem.Challenge.rw_phrasejoins_k30_texts_refused_and_by_nam.prog) (w := w) (base := base) TCheckRow TIsRow gIsRow cR
    have UF := V2.TFs.mk TFolded TFromInside TNodesIn TPartsOf tF
    have gTx := V2.ok_textOf (P := PySem.Challenge.rw_phrasejoins_k30_texts_refused_and_by_nam.prog) (w := w) (base := base) TTextOf tT UF B
    have gKT := V2.ok_kindTextA (P := PySem.Challenge.rw_phrasejoins_k30_texts_refused_and_by_nam.prog) (w := w) (base := base) TKindText TCheckKind gCK TTextOf.T gTx
    have gRT := V2.ok_rowTextA (P := PySem.Challenge.rw_phrasejoins_k30_texts_refused_and_by_nam.prog) (w := w) (base := base) TRowText TCheckRow gCR TTextOf.T gTx GX
    have gKsT := V2.ok_kindsTextA (P := PySem.Challenge.rw_phrasejoins_k30_texts_refused_and_by_nam.prog) (w := w) (base := base) TKindsText TCheckRow gCR TTextOf.T gTx GX
    have gPut := V2.ok_putTogether (P := PySem.Challenge.rw_phrasejoins_k30_texts_refused_and_by_nam.prog) (w := w) (base := base) TPutTogether B
    have gTold := V2.ok_kindTold (P := PySem.Challenge.rw_phrasejoins_k30_texts_refused_and_by_nam.prog) (w := w) (base := base) TKindTold TPutTogether gPut TIsKind gIsKind TTextOf.T gTx
    have gKsTold := V2.ok_kindsTold (P := PySem.Challenge.rw_phrasejoins_k30_texts_refused_and_by_nam.prog) (w := w) (base := base) TKindsTold TKindTold gTold B cP
    have gRK := V2.ok_readKind (P := PySem.Challenge.rw_phrasejoins_k30_texts_refused_and_by_nam.prog) (w := w) (base := base) TReadKind TKindTold gTold B cP
    have gRR := V2.ok_readRow (P := PySem.Challenge.rw_phrasejoins_k30_texts_refused_and_by_nam.prog) (w := w) (base := base) TReadRow TKindsTold gKsTold GX
    have gRKs := V2.ok_readKinds (P := PySem.Challenge.rw_phrasejoins_k30_texts_refused_and_by_nam.prog) (w := w) (base := base) TReadKinds TKindsTold gKsTold GX
    have gKsToldN := V2.ok_kindsToldN (P := PySem.Challenge.rw_phrasejoins_k30_texts_refused_and_by_nam.prog) (w := w) (base := base) TKindsTold B cP
    have gRKN := V2.ok_readKindN (P := PySem.Challenge.rw_phrasejoins_k30_texts_refused_and_by_nam.prog) (w := w) (base := base) TReadKind B cP
    have gRRN := V2.ok_readRowN (P := PySem.Challenge.rw_phrasejoins_k30_texts_refused_and_by_nam.prog) (w := w) (base := base) TReadRow TKindsTold gKsToldN GX
    have gRKsN := V2.ok_readKindsN (P := PySem.Challenge.rw_phrasejoins_k30_texts_refused_and_by_nam.prog) (w := w) (base := base) TReadKinds TKindsTold gKsToldN GX
    have lAsked := V2.ok_lasked (P := PySem.Challenge.rw_phrasejoins_k30_texts_refused_and_by_nam.prog) (w := w) (base := base) TLAsked TKindText gKT TRowText gRT TKindsText gKsT TReadKind (KT.fn_or gRK gRKN) TReadRow (KT.fn_or gRR gRRN) TReadKinds (KT.fn_or gRKs gRKsN) B
    have lTold := V2.ok_ltold (P := PySem.Challenge.rw_phrasejoins_k30_texts_refused_and_by_nam.prog) (w := w) (base := base) TLTold TLAsked lAsked B cK cR cP EC
    have UD : V2.TDs _ mg _ _ _ _ _ _ _ _ _ _ := ⟨TLDraw, TLMixed, TLWord, TLWords, TLOneOf, B⟩
    have lDraw := V2.ok_draw (P := PySem.Challenge.rw_phrasejoins_k30_texts_refused_and_by_nam.prog) (w := w) (base := base) TLDraw TLMixed B
    have lPurses := V2.ok_purses (P := PySem.Challenge.rw_phrasejoins_k30_texts_refused_and_by_nam.prog) (w := w) (base := base) TLPurses TLPurse B
    have lPlains := V2.ok_plains (P := PySem.Challenge.rw_phrasejoins_k30_texts_refused_and_by_nam.prog) (w := w) (base := base) TLPlains UD
    have lKind := V2.ok_kind (P := PySem.Challenge.rw_phrasejoins_k30_texts_refused_and_by_nam.prog) (w := w) (base := base) TLKind UD 6 (by decide)
    have lExact := V2.ok_exactO (P := PySem.Challenge.rw_phrasejoins_k30_texts_refused_and_by_nam.prog) (w := w) (base := base) TLExact B 12
    have lSame := V2.ok_sameO (P := PySem.Challenge.rw_phrasejoins_k30_texts_refused_and_by_nam.prog) (w := w) (base := base) TLSame B 12
    have lOK := V2.ok_lOddKinds (P := PySem.Challenge.rw_phrasejoins_k30_texts_refused_and_by_nam.prog) (w_ := w) (base := base) TLOddKinds
    have lOR := V2.ok_lOddRows (P := PySem.Challenge.rw_phrasejoins_k30_texts_refused_and_by_nam.prog) (w_ := w) (base := base) TLOddRows
    have lVery := V2.ok_lvery (P := PySem.Challenge.rw_phrasejoins_k30_texts_refused_and_by_nam.prog) (w := w) (base := base) TLVery TLExact lExact B
    have lFalls := V2.ok_lfalls (P := PySem.Challenge.rw_phrasejoins_k30_texts_refused_and_by_nam.prog) (w_ := w) (base := base) TLFalls TLOddKinds lOK TLOddRows lOR TLTold lTold TLVery lVery B
    exact V2.ok_law30 (P := PySem.Challenge.rw_phrasejoins_k30_texts_refused_and_by_nam.prog) (w_ := w) (base := base) TLaw TLPurses lPurses TLPlains lPlains TLDraw lDraw TLKind lKind TLSame lSame TLTold lTold TLFalls lFalls TLExact lExact B
