import PyProof.Rows.All
import Wide.All
import OpenK.AllK
import Wide.FinOn
import HandS.ForMost
import HandS.WideBits
import HandS.Defaults
import HandS.ExcInit
import HandS.IsInst
import HandS.ExcIs
import HandS.Style
import PyProof.ReprRoads
import HandS.ExcField
import KE.KExcIs
import HandS.ExcValue
import PyProof.StrLawsRepr
import PySem.Challenge.RW_phrasejoins_k01_errors_made
set_option Elab.async false
set_option linter.all false
set_option maxRecDepth 100000
set_option maxHeartbeats 8000000
/-! Rules of our own: defs that are called where no repr is under way; errors as values; repr of data. -/
namespace K1
open PySem PySem.Spec PyProof.Rows L2
/-- what FnOk says, of calls made while no repr is under way -/
structure FnG (P : Program) (w : World) (K : PySem.W.Frag) (mg : Str → Option Value) (base : Heap) (k : Nat) (f : Addr) (fd : FuncData) (ps : List Str) (sp : Sp) : Prop where
  len : ∀ vs H Q E, sp vs H Q E → vs.length = ps.length
  run : ∀ (B : Around) (outer : List Env) (s : Shared) (H : Hp) (args : Args) (us : List Value) (vs : List V) (Q : VK), B.guards = some [] → Room k B → Env0 P w K mg base B outer s H →
    BindsTo s fd args (ps.zip us) → Vals vs us → sp vs H Q E0 → codeAny (model P w) B (.call (.ref f) args) (CR CX0 outer P w H s Q E0) s
theorem gn_of {P : Program} {w : World} {K : PySem.W.Frag} {mg : Str → Option Value} {base : Heap} {x qual : Str} {st : Stmt} {f : Addr} {fd : FuncData} {N ps : List Str} {k : Nat} {sp : Sp} (F : Fun K x qual st f fd)
    (S : FnScope N ps (defScope st)) (len : ∀ vs H Q E, sp vs H Q E → vs.length = ps.length)
    (body : ∀ (cdv : Value) (B : Around) (outer : List Env) (s : Shared) (H : Hp) (vs : List V) (Q : VK), B.guards = some [] → Room k (B.deeper (envOfC qual (defScope st) s.heap.objs.size f cdv)) → sp vs H Q E0 →
      ∃ t, PSs (cxOf CX0 P w K mg base N qual (defScope st) f cdv B outer s H E0).nox (defBody st) t ∧ t { nx := fun _ H' => Q .non H', rt := Q } (start N vs) H) :
    FnG P w K mg base (k + 1) f fd ps sp := by
  obtain ⟨oc, od, kV, doc, pm, an, cdv, ct, osl, rfl, lk, hcd⟩ := F.ex
  refine ⟨len, fun B outer s H args us vs Q hg hr e0 hb r hsp => ?_⟩
  have hl := len _ _ _ _ hsp
  have KX : K.In s.heap := e0.mod.kin.keeps fun b o e => (e0.bs b o e).1
  have lim : s.heap.NoLimit := e0.mod.nolimit.keeps fun b o e => (e0.bs b o e).1
  have kinds : ∀ y ∈ ps.zip us, (defScope st).names.lookup y.1 = some .local ∨ ((defScope st).names.lookup y.1 = some .cell ∧ ((cellsFrom (s.heap.objs.size + 1) (defScope st).names []).lookup y.1).isSome = true) := by
    rintro ⟨n, v⟩ hy
    exact (S.par n (List.of_mem_zip hy).1).imp id fun q => ⟨q, PySem.W.cellsFrom_some _ _ _ (.inl q)⟩
  refine codeAny_call_function hr.depth (KX _ _ lk) rfl S.co S.gen rfl (PySem.W.codeRec_of KX hcd) (hb _ _ _ _ ?_)
  refine wpAny_newFunctionEnv_cells S.kind kinds fun env he s1 z => ?_
  subst he
  refine ⟨lim.keeps z.toInCall.keep, codeAny_func ?_⟩
  obtain ⟨t, ht, hq⟩ := body cdv B outer s H vs Q hg (hr.deeper _) hsp
  have I := inv_start (CX := CX0) (E := E0) S hr.hd e0 hl r z
  refine wpAny_mono (ht.nox.run [] s1 (start N vs) H _ I hq) (fun fl s' hs => ?_) fun e s' hs => hs
  cases fl with
  | ret u =>
    obtain ⟨v, σ', H', J, rv, q⟩ := hs
    exact ⟨v, H', J.os, J.bare, J.base, J.hok, rv, q⟩
  | next =>
    obtain ⟨σ', H', J, q⟩ := hs
    exact ⟨V.non, H', J.os, J.bare, J.base, J.hok, rfl, q⟩
  | brk =>
    obtain ⟨_, _, _, q⟩ := hs
    exact False.elim q
  | cont =>
    obtain ⟨_, _, _, q⟩ := hs
    exact False.elim q
section
variable {X : Cx} {k : Nat} {f : Addr} {fd : FuncData} {ps : List Str} {sp : Sp} {x : Str} {p pos : Pos} {e : Expr} {es : List Expr} {t : TA}
theorem run_gn {pins : List (Addr × Obj)} {σ : L2.St} {H : Hp} {s : Shared} {Q : VK} {us : List Value} {vs : List V} (F : FnG X.prog X.w X.K X.mg X.base k f fd ps sp) (hG : X.A.guards = some []) (hr : Room k X.A) (hb : Binds X.K fd ps [])
    (I : Inv X pins σ H s) (r : Vals vs us) (h : sp vs H Q E0) : wpAny (model X.prog X.w) X.A (call (.ref f) us) (EP X pins σ Q) X.xe s := by
  have hl : (us ++ []).length = ps.length := by
    rw [List.append_nil, ← r.length]
    exact F.len _ _ _ _ h
  have hb' := hb s us I.kIn hl
  rw [List.append_nil] at hb'
  refine wpAny_call (codeAny_mono (F.run X.A X.stack s H ⟨us, []⟩ us vs Q hG hr I.env0 hb' r h) fun q s' hq => ?_)
  match q, hq with
  | .error _, hq => exact False.elim hq
  | .ok (.ret _), hq => exact I.after hq
  | .ok .next, hq => exact False.elim hq
  | .ok .brk, hq => exact False.elim hq
  | .ok .cont, hq => exact False.elim hq
theorem pe_gcall (F : FnG X.prog X.w X.K X.mg X.base k f fd ps sp) (hG : X.A.guards = some []) (hr : Room k X.A) (hg : Gl X x) (hm : X.mg x = some (.ref f)) (hk : PySem.W.keepIn X.K (.ref f) = true) (hb : Binds X.K fd ps [])
    (ha : PA X (e :: es) t) (hdb : (x == ("__debug__" : Str)) = false := by decide) (he : starEach (e :: es) X.env = (false, eval e X.env) :: starEach es X.env := by rfl) (hpl : (backTo pos (starEach es X.env)).any (·.1) = false := by rfl) :
    PE X (.Call (.Name x p) (e :: es) [] pos) (fun σ H Q => t σ H fun vs H1 => sp vs H1 Q E0) := by
  refine ⟨fun pins s σ H Q I h => wpAny_Call_Name_kw (ld_glob I hg hm ?_ hdb)⟩
  exact PySem.W.callWith_K (h₀ := X.base) I.ok.mod.kin hk (thn (ha.run pos pins s σ H _ I h) fun us s1 ⟨vs, H1, I1, r, q⟩ => ⟨I1.kIn, run_gn F hG hr hb I1 r q⟩) he hpl
end
end K1

namespace K1
open PySem PySem.Spec PyProof.Rows L2
/-- ahead of the law's call: an abstract heap that knows the script alone, and a base in which it is hidden -/
theorem env_at {P : Program} {w : World} {K : PySem.W.Frag} {mg mb : Str → Option Value} {a : Addr} {s : Shared} {vs : List Value} {ns : List Int} (KX : K.In s.heap) (hg : s.heap.Ns mainGlobals mg) (hb : s.heap.Ns builtinsNs mb)
    (hbb : ∀ x : Str, x ≠ "__name__" → mb x = bootBuiltins x) (lim : s.heap.NoLimit) (gens : s.gens = #[]) (ha : s.heap.get? a = some { cls := .type "list", data := .seq vs.toArray }) (hi : IntsAre vs ns) (hl : ns.length ≤ sizeLine) :
    ∃ (H : Hp) (base : Heap), Only H ∧ SqL K H a (ns.map V.int) ∧ K.In base ∧ base.Ns mainGlobals mg ∧ Env0 P w K mg base callerA [] s H ∧ (∀ b, H b ≠ none → b = a) := by
  have build : ∀ H : Hp, Only H → SqL K H a (ns.map V.int) → HOk P w H s.heap → (∀ b, H b ≠ none → b = a) → (H a ≠ none → K.lookup a = none) →
      ∃ (H : Hp) (base : Heap), Only H ∧ SqL K H a (ns.map V.int) ∧ K.In base ∧ base.Ns mainGlobals mg ∧ Env0 P w K mg base callerA [] s H ∧ (∀ b, H b ≠ none → b = a) := by
    intro H h1 h2 hok only notK
    have dictFree : ∀ {b : Addr} {o : Obj} {es : Array DictEntry} {ep : Nat}, s.heap.get? b = some o → o.data = .dict es ep → H b = none := by
      intro b o es ep e d
      refine Classical.byContradiction fun n => ?_
      have eb := only b n
      rw [eb, ha] at e
      injection e with e
      rw [← e] at d
      cases d
    have nsTo : ∀ {b : Addr} {m : Str → Option Value}, s.heap.Ns b m → (hidT s.heap H).Ns b m := by
      rintro b m ⟨o, es, ep, e, d, r⟩
      exact ⟨o, es, ep, hidT_get e (dictFree e d), d, r⟩
    have kin : K.In (hidT s.heap H) := by
      intro b o e
      refine hidT_get (KX b o e) (Classical.byContradiction fun n => ?_)
      have eb := only b n
      rw [eb] at e n
      rw [notK n] at e
      cases e
    obtain ⟨mc, l1, l2⟩ := lim
    exact ⟨H, hidT s.heap H, h1, h2, kin, nsTo hg, ⟨rfl, ⟨kin, nsTo hg, ⟨mb, nsTo hb, hbb⟩, ⟨mc, nsTo l1, l2⟩⟩, fun b o e => of_hidT e, Nat.le_of_eq (hidT_size _ _), trivial, fun b hb => (nomatch (show b ∈ ([] : List Addr) from hb)), hok, .of_eq gens⟩, only⟩
  have rv := vals_ints hi
  cases hk : K.lookup a with
  | some o =>
    have e := KX a o hk
    rw [ha] at e
    injection e with e
    subst e
    refine build (fun _ => none) (fun _ => .inl rfl) (.inr ⟨_, vs.toArray, _, hk, rfl, rfl, rfl, ?_, by simpa using rv⟩) (fun b u z => nomatch z) (fun b z => absurd rfl z) fun z => absurd rfl z
    rw [List.size_toArray, hi.length]
    exact hl
  | none =>
    refine build (upd (fun _ => none) a (.frz { cls := .type "list", data := .seq vs.toArray } (.lst (ns.map V.int)))) (fun b => ?_) (.inl (.inr ⟨_, upd_same⟩)) (fun b u z => ?_) (fun b n => ?_) fun _ => hk
    · by_cases e : b = a
      · rw [e]
        exact .inr ⟨_, _, upd_same⟩
      · exact .inl (upd_ne e)
    · by_cases e : b = a
      · rw [e, upd_same] at z
        injection z with z
        rw [← z, e]
        exact ⟨ha, by rw [List.length_map]; exact hl, vs, _, rv, ha⟩
      · rw [upd_ne e] at z
        cases z
    · refine Classical.byContradiction fun e => n (upd_ne e)
/-- the law's promise at the call that the row makes: no repr is under way there -/
theorem walk_gn {l : PySem.W.OpenLaw} {n k : Nat} {q : Program} {loose : List Str} {XP : (Str → Option Value) → Heap → Prop} {YP : World → Heap → Prop} {d : DefRec} {K : Params → PySem.W.Frag} {sp : PySem.W.Frag → Sp} {x : Str}
    (hn : l.most = some n) (hn2 : n ≤ sizeLine) (hdf : d.params.defaults = []) (hr : Room k callerA) (hY : ∀ (w : World) (h : Heap), YP w h → (K w.params).In h)
    (F : ∀ (w : World) (mg : Str → Option Value) (fa : Addr) (h : Heap), (K w.params).In h → h.Ns mainGlobals mg → mg d.name = some (.ref fa) →
      ∃ fd : FuncData, (∀ (s : Shared) (u : Value), BindsTo s fd ⟨[u], []⟩ [(x, u)]) ∧ ∀ base : Heap, (K w.params).In base → base.Ns mainGlobals mg → FnG l.prog w (K w.params) mg base k fa fd [x] (sp (K w.params)))
    (hsp : ∀ (K : PySem.W.Frag) (H : Hp) (a : Addr) (ns : List Int), ns.length ≤ n → Only H → SqL K H a (ns.map V.int) → sp K [.ref a] H (fun v _ => v = .bl true) E0) :
    PySem.W.WalkO q loose XP YP l.row.toRowW d [] (fun f vs => PySem.call f vs) := by
  refine Att.attach_call hn hdf fun w s₀ s mg mb fa o pm cd doc a vs ns G Y ho hd hcd hmg hobj hints hlen hg => ?_
  have KX := hY w _ Y
  obtain ⟨fd, hb, hF⟩ := F w mg fa _ KX G.T.g hmg
  obtain ⟨H, base, h1, h2, kb, nb, e0, only⟩ := env_at (P := l.prog) (w := w) KX G.T.g G.T.b G.T.builtins G.T.nolimit hg hobj hints (Nat.le_trans hlen hn2)
  refine codeAny_mono ((hF base kb nb).run callerA [] s H ⟨[.ref a], []⟩ [.ref a] [.ref a] _ rfl hr e0 (hb s (.ref a)) (.cons rfl .nil) (hsp _ H a ns hlen h1 h2)) fun r s' hq => ?_
  match r, hq with
  | .error _, hq => exact False.elim hq
  | .ok .next, hq => exact False.elim hq
  | .ok .brk, hq => exact False.elim hq
  | .ok .cont, hq => exact False.elim hq
  | .ok (.ret u), hq =>
    obtain ⟨v, H', os, bare, un, hok', rv, rfl⟩ := hq
    obtain rfl : u = Value.bool true := rv
    refine ⟨rfl, OldK.of_keep fun b o e => ?_, os, bare⟩
    rcases h1 b with z | ⟨ob, xs, z⟩
    · exact un.keep b o e z (fun m => nomatch (show b ∈ ([] : List Addr) from m)) (fun m => nomatch m)
    · obtain ⟨e1, _⟩ := e0.hok b _ z
      obtain ⟨e2, _⟩ := hok' b _ (un.frzs b ob _ z)
      rw [e] at e1
      rw [e2, e1]
end K1

namespace PySem
namespace HandSPX
open Builtin Builtin.ObjectAttr
section
variable {M : Model} {A : Around} {E : Value → Shared → Prop} {h : Heap} {g : Array GenState} {d : Drawn} {t : Nat} {os : OsState}
variable {nm q : Str} {C N : Addr} {bs bm bmB : List Value} {hdct : Bool} {sn : List Str} {sub : List Value} {ab : Bool} {col : Option Bool} {dd : Option Addr} {k0 k1 k2 k3 k5 : Option Value} {B newId initId : String} {kw : List (Str × Value)} {rest : List Value}
theorem kwCheckNew (F : ExcBaseFacts B newId initId bmB) (same : ∀ X : String, bm.contains (.type X) = bmB.contains (.type X)) {Q : Unit → Shared → Prop}
    (at_C : h.get? C = some (excClassObj nm q C N bs bm hdct sn sub ab col dd k0 k1 k2 k3 k5 newId)) (hq : Q () ⟨h, g, d, t, os⟩) : wpAny M A (checkBuiltinCall newId ⟨.ref C :: rest, kw⟩) Q E ⟨h, g, d, t, os⟩ := by
  have inB : (Value.ref C :: bm).contains (.type B) = true := by
    rw [List.contains_cons, same, F.hasB, Bool.or_true]
  have star := F.noStar
  simp only [checkBuiltinCall, F.newKind, F.newSplit, F.newRow]
  repeat (first | refine wpAny_loadPart_at at_C ?_ | (refine wpAny_isSubtype_exc at_C ?_; rw [inB]) | refine wpAny_staticBase_exc at_C ?_ | refine wpAny_madeBy_exc at_C ?_ | simp only [bne_self_eq_false, Bool.false_eq_true, if_false] | wp_step)
  all_goals exact hq
end
section
variable {prog : Program} {w : World} {A : Around} {E : Value → Shared → Prop} {R : Result → Shared → Prop} {h : Heap} {g : Array GenState} {d : Drawn} {t : Nat} {os : OsState}
variable {nm q : Str} {C N : Addr} {bs bm bmB : List Value} {hdct : Bool} {sn : List Str} {sub : List Value} {ab : Bool} {col : Option Bool} {dd : Option Addr} {k0 k1 k2 k3 k5 : Option Value} {B newId initId : String} {kw : List (Str × Value)} {rest : List Value}
theorem kwNew (F : ExcBaseFacts B newId initId bmB) (same : ∀ X : String, bm.contains (.type X) = bmB.contains (.type X))
    (at_C : h.get? C = some (excClassObj nm q C N bs bm hdct sn sub ab col dd k0 k1 k2 k3 k5 newId))
    (hq : R (.ok (.ret (.ref (h.objs.size + 1)))) ⟨(h.push (W.kdv_tup rest)).push (excO C h.objs.size), g, d, t, os⟩) (few : rest.length ≤ sizeLine) :
    codeAny (model prog w) A (.builtin newId ⟨.ref C :: rest, kw⟩) R ⟨h, g, d, t, os⟩ := by
  have ends := F.ends
  have inB : (Value.ref C :: bm).contains (.type B) = true := by
    rw [List.contains_cons, same, F.hasB, Bool.or_true]
  have inA : (Value.ref C :: bm).contains (.type "AttributeError") = false := by
    rw [List.contains_cons, same, F.noAttr]
    rfl
  have inN : (Value.ref C :: bm).contains (.type "NameError") = false := by
    rw [List.contains_cons, same, F.noName]
    rfl
  refine codeAny_builtinAt F.entry ?_
  unfold Builtin.«BaseException.__new__»
  refine wpAt_bind ?_
  show wpAt _ _ _ (stack >>= _) _ _ _
  refine wpAt_bind (wpAt_stack fun p below => wpAt_of_wpAny ?_)
  wp_walk
  refine wpAt_of_wpAny ?_
  rw [F.owner]
  repeat (first | with_reducible refine wpAny_madeHere_exc F.canon at_C ?_ | with_reducible refine wpAny_loadPart_at at_C ?_ | (with_reducible refine wpAny_isSubtype_exc at_C ?_; first | rw [inB] | rw [inA] | rw [inN]) | wp_step)
  show R _ _
  rw [Heap.size_push]
  exact hq
theorem kwTypeCall (F : ExcBaseFacts B newId initId bmB) (same : ∀ X : String, bm.contains (.type X) = bmB.contains (.type X)) {fI : Addr} {Q : Fin → Shared → Prop}
    (at_C : h.get? C = some (excClassObj nm q C N bs bm hdct sn sub ab col dd k0 k1 k2 k3 k5 newId))
    (hi : W.Looks (model prog w) h (typeLookup (.ref C) "__init__") (some (.ref fI))) (hb : ∀ self, W.Looks (model prog w) h (bindSpecial (.ref fI) self) (.ref fI, [self])) (few : rest.length ≤ sizeLine)
    (hq : codeAny (model prog w) A (.call (.ref fI) ⟨.ref (h.objs.size + 1) :: rest, kw⟩)
      (fun r s' => match r with | .ok (.ret v) => v = .none ∧ Q (.done (.ret (.ref (h.objs.size + 1)))) s' | .ok _ => False | .error e => E e s')
      ⟨(h.push (W.kdv_tup rest)).push (excO C h.objs.size), g, d, t, os⟩) :
    wpAny (model prog w) A (Builtin.«type.__call__» ⟨.ref C :: rest, kw⟩) Q E ⟨h, g, d, t, os⟩ := by
  repeat (first | with_reducible refine wpAny_loadPart_at at_C ?_ | with_reducible refine wpAny_madeBy_exc at_C ?_ | wp_step)
  refine codeAny_call_builtin_code (Code.quiet_builtin _ F.quiet) (kwCheckNew F same at_C ?_)
  refine kwNew F same at_C ?_ few
  show wpAny _ _ _ _ _ _
  have keep : ∀ b o, h.get? b = some o → ((h.push (W.kdv_tup rest)).push (excO C h.objs.size)).get? b = some o := fun b o e => Heap.get?_push_of_some _ (Heap.get?_push_of_some _ e)
  have at_C1 := keep _ _ at_C
  have at_e : ((h.push (W.kdv_tup rest)).push (excO C h.objs.size)).get? (h.objs.size + 1) = some (excO C h.objs.size) := by heap_get
  have inC : (Value.ref C :: bm).contains (.ref C) = true := by simp
  have i1 := hi.keeps keep
  have b1 := (hb (.ref (h.objs.size + 1))).keeps keep
  unfold isInstance
  repeat (first | with_reducible refine wpAny_loadPart_at at_e ?_ | (with_reducible refine wpAny_isSubtype_exc at_C1 ?_; rw [inC]) | wp_step)
  show wpAny _ _ (typeLookup (.ref C) _) _ _ _
  refine i1.at (wpAny_holding (wpAny_bind (b1.at ?_)))
  refine wpAny_bind (wpAny_call (codeAny_mono hq fun r s' z => ?_))
  match r, z with
  | .error e, z => exact z
  | .ok (.ret v), z =>
    obtain ⟨rfl, z⟩ := z
    first
      | exact wpAny_pure (wpAny_pure z)
      | (wp_walk; exact z)
  | .ok .next, z => exact z.elim
  | .ok .brk, z => exact z.elim
  | .ok .cont, z => exact z.elim
theorem kwCall (F : ExcBaseFacts B newId initId bmB) (same : ∀ X : String, bm.contains (.type X) = bmB.contains (.type X)) {fI : Addr}
    (at_C : h.get? C = some (excClassObj nm q C N bs bm hdct sn sub ab col dd k0 k1 k2 k3 k5 newId))
    (hi : W.Looks (model prog w) h (typeLookup (.ref C) "__init__") (some (.ref fI))) (hb : ∀ self, W.Looks (model prog w) h (bindSpecial (.ref fI) self) (.ref fI, [self])) (few : rest.length ≤ sizeLine)
    (hq : codeAny (model prog w) (A.under (.builtin "type.__call__" ⟨.ref C :: rest, kw⟩)) (.call (.ref fI) ⟨.ref (h.objs.size + 1) :: rest, kw⟩) (W.InitBack (h.objs.size + 1) R)
      ⟨(h.push (W.kdv_tup rest)).push (excO C h.objs.size), g, d, t, os⟩) :
    codeAny (model prog w) A (.call (.ref C) ⟨rest, kw⟩) R ⟨h, g, d, t, os⟩ := by
  have f1 := tc_lookup
  have f2 := tc_bind (.ref C)
  have isTy : (⟨h, g, d, t, os⟩ : Shared).TypeIs (.ref C) "type" := ⟨_, at_C, rfl⟩
  refine codeAny_of_tree ?_
  show wpAny _ _ (callAny (.ref C) _) _ _ _
  repeat (any_goals (first | assumption | with_reducible refine wpAny_loadPart_at at_C ?_ | wp_step))
  refine ⟨rfl, ?_⟩
  refine codeAny_call_builtin_at (Code.quiet_builtin _ (by decide +kernel)) entry_typeCall (wpAny_check_type_call_sub at_C (kwTypeCall F same at_C hi hb few ?_))
  refine codeAny_mono hq fun r s' z => ?_
  match r, z with
  | .error e, z => exact z
  | .ok (.ret v), z => exact z
  | .ok .next, z => exact z
  | .ok .brk, z => exact z
  | .ok .cont, z => exact z
end
end HandSPX
end PySem

namespace K1
open PySem PySem.Spec PyProof.Rows L2
open PySem.W (Frag)
/-! ### the text of __init__ -/
def eA (p1 p2 p3 : Pos) : Arguments := { posonlyargs := [], args := [{ arg := "self", annotation := none, pos := p1 }, { arg := "value", annotation := none, pos := p2 }], vararg := none, kwonlyargs := [], kw_defaults := [], kwarg := none, defaults := [.Constant .none 0 p3] }
def eB (q1 q2 q3 q4 : Pos) : List Stmt := [.Assign [.Attribute (.Name "self" q1) "value" q2] (.Name "value" q3) q4]
def eS : Scope := { kind := .function, names := [(PySem.Str.ofString "self", .local), (PySem.Str.ofString "value", .local)], isGenerator := false, isCoroutine := false, more := [] }
/-- what the written part says of an error's class at C, and of its __init__ at fI -/
structure ErrC (K : Frag) (mg : Str → Option Value) (x : Str) (C fI : Addr) : Prop where
  gC : mg x = some (.ref C)
  ox : OexC K C
  ga : PySem.W.findIn K (.ref C) "__getattribute__" = some (some (.builtin "BaseException.__getattribute__"))
  gg : PySem.W.findIn K (.ref C) "__getattr__" = some none
  hd : PySem.W.hasDictIn K C = true
  noN : PySem.W.findIn K (.ref C) "value" = some none
  iC : PySem.W.findIn K (.ref C) "__init__" = some (some (.ref fI))
  tI : PySem.W.typeIn K (.ref fI) = some (.type "function")
  fn : ∃ (oc : Value) (od : Option Addr) (kV doc pm : Value) (an : Option Addr) (cdv ct : Value) (osl : Array (Option Value)) (p1 p2 p3 q1 q2 q3 q4 : Pos) (q : Str) (T : Addr) (o : Obj) (n : Nat),
    K.lookup fI = some ⟨oc, od, .func (PySem.W.fnOf "__init__" q (eA p1 p2 p3) (eB q1 q2 q3 q4) eS (.ref T) kV doc pm an cdv ct), osl⟩ ∧ PySem.W.codeIn K cdv q = true ∧ K.lookup T = some o ∧ o.data = .seq #[.none] n
/-- how the one value may be handed: by place, by name, not at all -/
inductive Hand : List Value → List (Str × Value) → Value → Prop where
  | place (u : Value) : Hand [u] [] u
  | name (u : Value) : Hand [] [("value", u)] u
  | not : Hand [] [] .none
theorem hand_few {us : List Value} {kw : List (Str × Value)} {u : Value} (h : Hand us kw u) : us.length ≤ sizeLine := by
  have e : us.length ≤ 1 := by cases h <;> simp
  rw [sizeLine_eq]
  omega
theorem hand_binds {K : Frag} {s : Shared} {T e : Addr} {o : Obj} {n : Nat} {kV doc pm cdv ct u : Value} {an : Option Addr} {p1 p2 p3 q1 q2 q3 q4 : Pos} {q : Str} {us : List Value} {kw : List (Str × Value)} (X : K.In s.heap) (lT : K.lookup T = some o) (oT : o.data = .seq #[.none] n)
    (h : Hand us kw u) : BindsTo s (PySem.W.fnOf "__init__" q (eA p1 p2 p3) (eB q1 q2 q3 q4) eS (.ref T) kV doc pm an cdv ct) ⟨.ref e :: us, kw⟩ [("self", .ref e), ("value", u)] := by
  refine BindsTo.of_looks fun M => ?_
  cases h with
  | place u => exact looks_items X lT oT (.of_pure rfl)
  | name u => exact looks_items X lT oT (.of_pure rfl)
  | not => exact looks_items X lT oT (.of_pure rfl)
/-- what __init__ leaves: the exception at x has its own dict at dx, the value stands in it -/
structure Inited (h h' : Heap) (x C dx t1 : Addr) (v : Value) : Prop where
  keep : ∀ b o, b ≠ x → h.get? b = some o → h'.get? b = some o
  obj : h'.get? x = some { cls := .ref C, dict := some dx, data := .fields #[.ref t1, .none, .none, .none, .bool false, .none] }
  dbig : h.objs.size ≤ dx
  dne : dx ≠ x
  ns : h'.Ns1 dx (fun y => if y = "value" then some v else none)
section
variable {prog : Program} {w : World} {A : Around} {R : Result → Shared → Prop} {s : Shared} {K : Frag} {mg : Str → Option Value} {nm : Str} {C fI : Addr}
theorem local_at {M : Model} {s : Shared} {name : Str} {scope : Scope} {L a : Addr} {cd : Value} {m : Str → Option Value} {x : Str} {pos : Pos} {v : Value} {Q E : Value → Shared → Prop} {B : Around} (hn : s.heap.Ns L m) (hv : m x = some v) (h : Q v s)
    (hk : scope.kind = .function := by rfl) (hl : (envOfC name scope L a cd).kindOf x = some .local := by rfl) (hd : (x == ("__debug__" : Str)) = false := by decide) :
    wpAny M B (eval (.Name x pos) (envOfC name scope L a cd)) Q E s := wpAny_Name (wpAny_loadName_local hk hl hn hv h) hd
theorem err_init (T : ErrC K mg nm C fI) {x t0 : Addr} {us : List Value} {kw : List (Str × Value)} {v : Value} (hh : Hand us kw v) (X : K.In s.heap) (lim : s.heap.NoLimit) (hx : s.heap.get? x = some (PySem.HandSPX.excO C t0)) (room : A.depth < recursionLimit)
    (hq : ∀ h' tk dx, Inited s.heap h' x C dx t0 v → R (.ok (.ret .none)) { s with heap := h', toks := tk }) :
    codeAny (model prog w) A (.call (.ref fI) ⟨.ref x :: us, kw⟩) R s := by
  obtain ⟨oc, od, kV, doc, pm, an, cdv, ct, osl, p1, p2, p3, q1, q2, q3, q4, q, D, oD, nD, ho, hcd, lD, dD⟩ := T.fn
  obtain ⟨n2, qn, N, bs, bm, sn, sub, ab, col, dd, k0, k1, k2, k3, k5, hC, hbm⟩ := T.ox.cls
  have hcl : PySem.W.clsIn K C = some { name := n2, bases := bs, mro := .ref C :: bm, ns := N, qualname := qn, hasDict := true, slotNames := sn, subclasses := sub, abstract := ab, collection := col, hasDel := false } := by
    unfold PySem.W.clsIn
    rw [hC] <;> rfl
  refine Att.call_fn (binds := [("self", .ref x), ("value", v)]) X lim ho hcd room (hand_binds X lD dD hh) (by first | rfl | decide | with_unfolding_all rfl) (fun s1 IC => ?_) rfl rfl rfl
  obtain ⟨h1, tk1, rfl⟩ := IC.toInCall.same
  have keep : ∀ b o, s.heap.get? b = some o → h1.get? b = some o := IC.toInCall.keep
  have hn := IC.toInCall.ns
  have X1 : K.In h1 := X.keeps keep
  have hx1 := keep _ _ hx
  show wpAny _ _ (execs _ _) _ _ _
  refine wpAny_execs_cons (plainObj_wpAny_Assign_Attribute ?_)
  refine local_at (v := v) hn (by first | rfl | with_unfolding_all rfl | kernel_rfl) (local_at (v := .ref x) hn (by first | rfl | with_unfolding_all rfl | kernel_rfl) ?_)
  refine PySem.W.set_plain X1 (ox := PySem.HandSPX.excO C t0) (od := none) ⟨hx1, rfl, rfl, trivial⟩ T.ox.sa ?_
  refine PySem.HandSPX.exc_osa X1 hx1 hcl (show PySem.HandSPX.refsVE (.ref C :: bm) = true from hbm) rfl T.noN (fun h3 tk3 dx k3 dn dne hx3 hn3 => ?_)
  show wpAny _ _ (execs _ _) _ _ _
  have z : s.heap.objs.size < h1.objs.size := hn.lt
  exact wpAny_execs_nil (hq h3 tk3 dx ⟨fun b o hb e => k3 b o hb (keep b o e), hx3, Nat.le_of_lt (Nat.lt_of_lt_of_le z dn), dne, hn3⟩)
/-- a made error: at e, its dict at d -/
structure Made (h h' : Heap) (e C d : Addr) (v : Value) : Prop where
  keep : ∀ b o, h.get? b = some o → h'.get? b = some o
  new : h.objs.size ≤ e
  obj : ∃ t1 : Addr, h'.get? e = some { cls := .ref C, dict := some d, data := .fields #[.ref t1, .none, .none, .none, .bool false, .none] }
  dbig : h.objs.size ≤ d
  dne : d ≠ e
  ns : h'.Ns1 d (fun y => if y = "value" then some v else none)
theorem err_made (T : ErrC K mg nm C fI) {us : List Value} {kw : List (Str × Value)} {v : Value} (hh : Hand us kw v) (X : K.In s.heap) (lim : s.heap.NoLimit) (room : A.depth + 1 < recursionLimit)
    (hq : ∀ h' tk e d, Made s.heap h' e C d v → R (.ok (.ret (.ref e))) { s with heap := h', toks := tk }) :
    codeAny (model prog w) A (.call (.ref C) ⟨us, kw⟩) R s := by
  obtain ⟨n2, qn, N, bs, bm, sn, sub, ab, col, dd, k0, k1, k2, k3, k5, hC, hbm⟩ := T.ox.cls
  obtain ⟨hp, g, dr, tk, os⟩ := s
  have keep : ∀ b o, hp.get? b = some o → ((hp.push (PySem.W.kdv_tup us)).push (PySem.HandSPX.excO C hp.objs.size)).get? b = some o := fun b o e => Heap.get?_push_of_some _ (Heap.get?_push_of_some _ e)
  have at_e : ((hp.push (PySem.W.kdv_tup us)).push (PySem.HandSPX.excO C hp.objs.size)).get? (hp.objs.size + 1) = some (PySem.HandSPX.excO C hp.objs.size) := by heap_get
  refine PySem.HandSPX.kwCall F.excBase_ValueError (fun Y => PySem.HandSPX.refsVE_contains Y bm hbm) (X _ _ hC) (PySem.W.looks_findIn X T.iC) (fun self => PySem.W.bind_fn X self T.tI) (hand_few hh) ?_
  refine err_init (s := ⟨(hp.push (PySem.W.kdv_tup us)).push (PySem.HandSPX.excO C hp.objs.size), g, dr, tk, os⟩) T hh (X.keeps keep) (lim.keeps keep) at_e room fun h' tk' dx M => ?_
  have old : ∀ b o, hp.get? b = some o → h'.get? b = some o := fun b o e => M.keep b o (Nat.ne_of_lt (Nat.lt_succ_of_lt (Heap.lt_size e))) (keep b o e)
  have z : hp.objs.size + 1 + 1 ≤ dx := by
    have q := M.dbig
    simp only [Heap.size_push] at q
    exact q
  exact ⟨rfl, hq h' tk' (hp.objs.size + 1) dx ⟨old, Nat.le_succ _, ⟨_, M.obj⟩, Nat.le_trans (Nat.le_trans (Nat.le_succ _) (Nat.le_succ _)) z, M.dne, M.ns⟩⟩
end
/-! ### errors as values, over the abstract heap -/
/-- at e an error of the class at C whose value is v -/
def ErrAt (H : Hp) (C e : Addr) (v : V) : Prop := ∃ d, H e = some (exo e C (some d)) ∧ H d = some (exd d [(("value" : Str), v)])
theorem ErrAt.same {H H' : Hp} {C e : Addr} {v : V} (k : Same H H') (h : ErrAt H C e v) : ErrAt H' C e v := by
  obtain ⟨d, h1, h2⟩ := h
  exact ⟨d, k _ _ h1, k _ _ h2⟩
section
variable {X : Cx} {pins : List (Addr × Obj)} {σ : L2.St} {H : Hp} {s : Shared} {nm : Str} {C fI : Addr}
theorem one_rel {v : V} {u : Value} (r : RelV v u) (f : Str) : RelO (List.lookup f [(("value" : Str), v)]) (if f = "value" then some u else none) := by
  rw [lookup_put]
  by_cases h : f = "value"
  · rw [if_pos h, if_pos h]
    exact r
  · rw [if_neg h, if_neg h]
    trivial
theorem track_err {h' : Heap} {tk : Nat} {e d : Addr} {v : V} {u : Value} (I : Inv X pins σ H s) (M : Made s.heap h' e C d u) (r : RelV v u) :
    Inv X pins σ (upd (upd H d (exd d [(("value" : Str), v)])) e (exo e C (some d))) { s with heap := h', toks := tk } := by
  obtain ⟨t1, obj⟩ := M.obj
  have he : H e = none := I.hok.fresh M.new
  have hd : H d = none := I.hok.fresh M.dbig
  have ne : ∀ {b : Addr} {o : Obj}, s.heap.get? b = some o → b ≠ e ∧ b ≠ d := fun {b o} q => ⟨Nat.ne_of_lt (Nat.lt_of_lt_of_le (Heap.lt_size q) M.new), Nat.ne_of_lt (Nat.lt_of_lt_of_le (Heap.lt_size q) M.dbig)⟩
  have old : ∀ {b : Addr} {o : HO}, H b = some o → (upd (upd H d (exd d [(("value" : Str), v)])) e (exo e C (some d))) b = some o := fun {b o} q => by
    rw [upd_ne (ne_of_none q he), upd_ne (ne_of_none q hd)]
    exact q
  have U : Un X.fs [] H (upd (upd H d (exd d [(("value" : Str), v)])) e (exo e C (some d))) s.heap h' := {
    keep := fun b o q _ _ _ => M.keep b o q
    slot := fun b o q _ _ _ => ⟨o.slots, M.keep b o q⟩
    free := fun b o q n _ => by
      rw [upd_ne (ne q).1, upd_ne (ne q).2]
      exact n
    there := fun b o q _ => ⟨o, M.keep b o q⟩
    tups := fun b xs q => old q
    frzs := fun b o u q => old q
    tbls := fun b ps q => ⟨#[], by rw [old q]; simp⟩ }
  refine I.un (t' := tk) U fun b o q => ?_
  by_cases hb : b = e
  · subst hb
    rw [upd_same] at q
    injection q with q
    rw [← q]
    exact exo_ok obj
  · rw [upd_ne hb] at q
    by_cases hbd : b = d
    · subst hbd
      rw [upd_same] at q
      injection q with q
      rw [← q]
      exact exd_ok M.ns (one_rel r)
    · rw [upd_ne hbd] at q
      exact (I.hok b o q).stay (fun c v _ z => M.keep c v z) (fun c z => old z) fun c xs z => old z
/-- what is wanted of the making of an error with the value v -/
def Makes (C : Addr) (v : V) (H : Hp) (Q : VK) : Prop := ∀ H' e, Same H H' → H e = none → ErrAt H' C e v → Q (.ref e) H'
theorem run_err (T : ErrC X.K X.mg nm C fI) (hr : Room 1 X.A) {us : List Value} {kw : List (Str × Value)} {v : V} {u : Value} {Q : VK} (hh : Hand us kw u) (r : RelV v u) (I : Inv X pins σ H s) (h : Makes C v H Q) :
    wpAny (model X.prog X.w) X.A (call (.ref C) us kw) (EP X pins σ Q) X.xe s := by
  refine wpAny_call (err_made T hh I.kIn I.nolimit (by have := hr.dp; omega) fun h' tk e d M => ?_)
  have J := track_err (tk := tk) I M r
  have he : H e = none := I.hok.fresh M.new
  have hd : H d = none := I.hok.fresh M.dbig
  refine ⟨.ref e, _, J, rfl, h _ e (fun b o q => ?_) he ⟨d, upd_same, ?_⟩⟩
  · rw [upd_ne (ne_of_none q he), upd_ne (ne_of_none q hd)]
    exact q
  · rw [upd_ne M.dne, upd_same]
variable {p pos kpos : Pos} {a : Expr} {ta : TE}
/-- C(e) -/
theorem pe_err1 (T : ErrC X.K X.mg nm C fI) (hr : Room 1 X.A) (ha : PE X a ta) (hg : Gl X nm := by rfl) (hdb : (nm == ("__debug__" : Str)) = false := by decide)
    (he : starEach (a :: []) X.env = (false, eval a X.env) :: starEach [] X.env := by rfl) : PE X (.Call (.Name nm p) [a] [] pos) (fun σ H Q => ta σ H fun v H1 => Makes C v H1 Q) := by
  refine ⟨fun pins s σ H Q I h => wpAny_Call_Name_kw (ld_glob I hg T.gC ?_ hdb)⟩
  refine PySem.W.callWith_K (h₀ := X.base) I.ok.mod.kin T.ox.kC ?_ he (by rfl)
  have P := pa_cons ha pa_nil he
  refine thn (P.run pos pins s σ H (fun vs H1 => match vs with | [v] => Makes C v H1 Q | _ => False) I h) fun us s1 hh => ?_
  obtain ⟨vs, H1, I1, r1, q1⟩ := hh
  match vs, us, r1, q1 with
  | [v], _, .cons rv .nil, q1 => exact ⟨I1.kIn, run_err T hr (.place _) rv I1 q1⟩
/-- C(value=e) -/
theorem pe_errK (T : ErrC X.K X.mg nm C fI) (hr : Room 1 X.A) (ha : PE X a ta) (hg : Gl X nm := by rfl) (hdb : (nm == ("__debug__" : Str)) = false := by decide)
    (hall : (backToKw pos (keywordEach [⟨some "value", a, kpos⟩] X.env)).all (·.1.isSome) = true := by rfl) (hks : (backToKw pos (keywordEach [⟨some "value", a, kpos⟩] X.env)).filterMap (·.1) = [("value" : Str)] := by rfl)
    (hpl : ((backTo pos (starEach [] X.env)).any (·.1) || (backToKw pos (keywordEach [⟨some "value", a, kpos⟩] X.env)).any (·.1.isNone)) = false := by rfl) :
    PE X (.Call (.Name nm p) [] [⟨some "value", a, kpos⟩] pos) (fun σ H Q => ta σ H fun v H1 => Makes C v H1 Q) := by
  refine ⟨fun pins s σ H Q I h => wpAny_Call_Name_kw (ld_glob I hg T.gC ?_ hdb)⟩
  refine PySem.W.callWith_KW0 (h₀ := X.base) I.ok.mod.kin T.ox.kC hall ?_ hpl
  have P := pk_cons (nm := some "value") (kpos := kpos) ha pk_nil
  refine thn (P.run pos pins s σ H (fun vs H1 => match vs with | [v] => Makes C v H1 Q | _ => False) I h) fun us s1 hh => ?_
  obtain ⟨vs, H1, I1, r1, q1⟩ := hh
  rw [hks]
  match vs, us, r1, q1 with
  | [v], _, .cons rv .nil, q1 => exact ⟨I1.kIn, run_err T hr (.name _) rv I1 q1⟩
/-- C() -/
theorem pe_err0 (T : ErrC X.K X.mg nm C fI) (hr : Room 1 X.A) (hg : Gl X nm := by rfl) (hdb : (nm == ("__debug__" : Str)) = false := by decide) :
    PE X (.Call (.Name nm p) [] [] pos) (fun σ H Q => Makes C .non H Q) := by
  refine ⟨fun pins s σ H Q I h => wpAny_Call_Name_kw (ld_glob I hg T.gC ?_ hdb)⟩
  exact PySem.W.callWith_K0 I.kIn T.ox.kC (run_err (v := .non) T hr .not (show RelV .non Value.none from rfl) I h)
/-- e.value of an error -/
def tVal (K : Frag) (ta : TE) : TE := fun σ H Q => ta σ H fun x H1 => ∃ (C e : Addr) (v : V), x = .ref e ∧ ErrAt H1 C e v ∧ XfC K C ∧ PySem.W.findIn K (.ref C) "value" = some none ∧ Q v H1
theorem pe_val (ha : PE X a ta) (hb : attributeBase a "value" X.env (eval a X.env) = eval a X.env := by rfl) : PE X (.Attribute a "value" pos) (tVal X.K ta) := by
  refine ⟨fun pins s σ H Q I h => attr_of hb (thn (ha.run pins s σ H _ I h) fun u s1 hh => ?_)⟩
  obtain ⟨x, H1, I1, rx, C, e, v, rfl, ⟨d, e1, e2⟩, T, hno, q⟩ := hh
  obtain rfl : u = Value.ref e := rx
  obtain ⟨t1, ho⟩ := exo_at I1.hok e1
  obtain ⟨mA, hns, rel⟩ := exd_at I1.hok e2
  obtain ⟨od, hod, look⟩ := lookIn_ns hns
  have l : List.lookup ("value" : Str) [(("value" : Str), v)] = some v := by rw [lookup_put, if_pos rfl]
  obtain ⟨u, hu, ru⟩ := RelO.some_of (v := v) (o := mA "value") (by rw [← l]; exact rel "value")
  have J : PySem.W.InstAt s1.heap e { cls := .ref C, dict := some d, data := .fields #[.ref t1, .none, .none, .none, .bool false, .none] } C (some od) := ⟨ho, rfl, rfl, hod⟩
  exact PySem.HandSPX.exc_get I1.kIn J T.ga T.gg T.exC (PySem.W.findObj_own T.hdC hno rfl (by rw [look, hu])) (handed_of ru) ⟨v, H1, I1.tok _, ru, q⟩
end
end K1

namespace K1
open PySem PySem.Spec PyProof.Rows L2
open PySem.W (Frag)
/-- at e an error of the class at C, with fields of its own or without -/
def IsErr (H : Hp) (C e : Addr) : Prop := (∃ d fs, H e = some (exo e C (some d)) ∧ H d = some (exd d fs)) ∨ H e = some (ExO (.ref C) e)
theorem ErrAt.is {H : Hp} {C e : Addr} {v : V} (h : ErrAt H C e v) : IsErr H C e := by
  obtain ⟨d, h1, h2⟩ := h
  exact .inl ⟨d, _, h1, h2⟩
theorem IsErr.same {H H' : Hp} {C e : Addr} (k : Same H H') (h : IsErr H C e) : IsErr H' C e := by
  rcases h with ⟨d, fs, h1, h2⟩ | h
  · exact .inl ⟨d, fs, k _ _ h1, k _ _ h2⟩
  · exact .inr (k _ _ h)
theorem is_clsIn {K : Frag} {C : Addr} (h : PySem.W.hasDictIn K C = true) : (PySem.W.clsIn K C).isSome = true := by
  obtain ⟨cd, hc, _⟩ := PySem.W.any_some h
  rw [hc]
  rfl
section
variable {X : Cx} {C : Addr} {nm : Str} {p pos : Pos}
theorem call_isErr : CallR X (.builtin "isinstance") (fun xs H Q => ∃ (e C : Addr) (c : V) (cv : Value) (b : Bool), xs = [.ref e, c] ∧ IsErr H C e ∧ ExcC X.K C ∧ ClsV c cv ∧ PySem.W.kitOne X.K (.ref C) cv = some b ∧ Q (.bl b) H) := by
  intro pins s σ H xs us Q I r h
  obtain ⟨e, C, c, cv, b, rfl, he, T, hc, hk, q⟩ := h
  match us, r with
  | _, .cons rx (.cons rt .nil) =>
    cases rx
    have ec := hc.eq rt
    subst ec
    have fin : ∀ tk : Nat, EP X pins σ Q (.bool b) { s with toks := tk } := fun tk => ⟨.bl b, H, I.kept (t' := tk) fun _ _ z => z, rfl, q⟩
    rcases he with ⟨d, fs, h1, h2⟩ | h1
    · obtain ⟨t1, ho⟩ := exo_at I.hok h1
      obtain ⟨mA, hns, _⟩ := exd_at I.hok h2
      obtain ⟨od, hod, _⟩ := lookIn_ns hns
      have J : PySem.W.InstAt s.heap e { cls := .ref C, dict := some d, data := .fields #[.ref t1, .none, .none, .none, .bool false, .none] } C (some od) := ⟨ho, rfl, rfl, hod⟩
      exact PySem.W.kia_one (PySem.W.kitx_exc (is_clsIn T.hd) T.hg T.hk T.hs T.ha T.hn T.ht T.hm) I.kIn J hk (fun z => nomatch z) fun tk => fin tk
    · obtain ⟨⟨oe, vs, ho, hz, hv, _⟩, _, _⟩ := (show ObjOk X.prog X.w H s.heap e (ExO (.ref C) e) from I.hok e _ h1)
      have J : PySem.W.InstAt s.heap e oe C none := by
        obtain ⟨oc, od, oda, osl⟩ := oe
        obtain ⟨z1, z2⟩ := hz
        dsimp only at z1 z2 hv
        subst z1 z2 hv
        exact ⟨ho, rfl, rfl, trivial⟩
      exact PySem.W.kia_one (PySem.W.kitx_exc (is_clsIn T.hd) T.hg T.hk T.hs T.ha T.hn T.ht T.hm) I.kIn J hk (fun z => nomatch z) fun tk => fin tk
/-- C() of an own class of errors without own __init__ -/
theorem pe_bare {bmB : List Value} {B newId initId : String} (F : ExcBaseFacts B newId initId bmB) (q : PySem.W.excIn X.K C bmB newId = true) (gC : X.mg nm = some (.ref C)) (kC : PySem.W.keepIn X.K (.ref C) = true) (hg : Gl X nm := by rfl)
    (hdb : (nm == ("__debug__" : Str)) = false := by decide) : PE X (.Call (.Name nm p) [] [] pos) (fun σ H Q => ∀ a, H a = none → Q (.ref a) (upd H a (ExO (.ref C) a))) := by
  refine ⟨fun pins s σ H Q I h => wpAny_Call_Name_kw (ld_glob I hg gC ?_ hdb)⟩
  refine PySem.W.callWith_K0 I.kIn kC ?_
  show wpAny _ _ (call (.ref C) []) _ _ _
  obtain ⟨bm, N, nm', qn, bs, hdct, sn, sub, ab, col, dd, k0, k1, k2, k3, k5, mN, hC, hN, hni, T⟩ := exc_obj I.kIn q
  refine wpAny_call_exc_subT F T hC hN hni (fun h' a hm => ?_) (by show 0 ≤ sizeLine; exact Nat.zero_le _)
  have hn : H a = none := I.hok.gone hm.new
  obtain ⟨t, ht, _, _⟩ := hm.there
  exact ⟨.ref a, upd H a (ExO (.ref C) a), I.laidN hm.keeps hm.new hn (exO_ok ht ⟨rfl, rfl⟩ rfl rfl rfl (show 4 < 6 by decide)), rfl, h a hn⟩
/-- i ** j of great numbers -/
theorem op_powB : OpR X (binaryOp .Pow) (rI (fun i j => 0 ≤ j ∧ (Builtin.Int.intBits i : Int) * j ≤ 2 ^ 27) fun i j => .int (i ^ j.toNat)) :=
  opI fun i j t u s Q E c q => PyProof.Rows.pow_int c.1 c.2 q
end
end K1

namespace K1
open PySem PySem.Spec PyProof.Rows L2
/-! ### data at the tracked addresses, dicts with text keys among it, and its repr -/
mutual
inductive Rp (H : Hp) : V → PyData → Prop
  | non : Rp H .non .none
  | bl (b : Bool) : Rp H (.bl b) (.bool b)
  | int (i : Int) : Rp H (.int i) (.int i)
  | str (x : Str) : Rp H (.str x) (.str x)
  | lst {a : Addr} {xs : List V} {ds : List PyData} : H a = some (.lst xs) → (a == sysModules) = false → RpAll H xs ds → Rp H (.ref a) (.list ds)
  | tup {a : Addr} {xs : List V} {ds : List PyData} : H a = some (.tup xs) → RpAll H xs ds → Rp H (.ref a) (.tuple ds)
  | dic {a : Addr} {kvs : List (Str × V)} {ds : List PyData} : H a = some (.dK (kvs.map fun p => (Sum.inr p.1, p.2))) → RpAll H (kvs.map (·.2)) ds → Rp H (.ref a) (.dict ((kvs.map fun p => PyData.str p.1).zip ds))
inductive RpAll (H : Hp) : List V → List PyData → Prop
  | nil : RpAll H [] []
  | cons {v : V} {vs : List V} {d : PyData} {ds : List PyData} : Rp H v d → RpAll H vs ds → RpAll H (v :: vs) (d :: ds)
end
theorem RpAll.len {H : Hp} : ∀ {vs : List V} {ds : List PyData}, RpAll H vs ds → vs.length = ds.length
  | _, _, .nil => rfl
  | _, _, .cons _ t => congrArg Nat.succ (RpAll.len t)
theorem zip_fst {α β : Type} : ∀ {l : List α} {r : List β}, l.length = r.length → (l.zip r).map (·.1) = l
  | [], [], _ => rfl
  | a :: l, b :: r, h => by
    show a :: (l.zip r).map (·.1) = a :: l
    rw [zip_fst (Nat.succ.inj h)]
theorem zip_snd {α β : Type} : ∀ {l : List α} {r : List β}, l.length = r.length → (l.zip r).map (·.2) = r
  | [], [], _ => rfl
  | a :: l, b :: r, h => by
    show b :: (l.zip r).map (·.2) = b :: r
    rw [zip_snd (Nat.succ.inj h)]
section
variable {X : Cx} {pins : List (Addr × Obj)} {σ : L2.St} {H : Hp} {s : Shared}
theorem entries_read {P : Program} {w : World} {h : Heap} : ∀ {kvs : List (Str × V)} {vs : List (Key × Value)} {es : List DictEntry}, KV (kvs.map fun p => ((Sum.inr p.1 : Key), p.2)) vs → Pairs (mixKind P w) es vs →
    ReadsAll h (es.map (·.key)) (kvs.map fun p => PyData.str p.1) [] ∧ Vals (kvs.map (·.2)) (es.map (·.val)) := by
  intro kvs
  induction kvs with
  | nil =>
    intro vs es h1 h2
    cases h1
    cases h2
    exact ⟨.nil, .nil⟩
  | cons p kvs ih =>
    intro vs es h1 h2
    cases h1 with
    | cons r t =>
      rename_i q qs
      cases h2 with
      | cons h3 h4 h5 =>
        rename_i e es'
        obtain ⟨i1, i2⟩ := ih t h5
        obtain ⟨r1, r2⟩ := r
        have hk : keyIs q.1 e.key = true := h3
        rw [← (show Sum.inr p.1 = q.1 from r1)] at hk
        obtain ⟨t1, ek⟩ := Value.isStrOf_shape (x := p.1) (v := e.key) hk
        refine ⟨?_, .cons ?_ i2⟩
        · show ReadsAll h (e.key :: _) (PyData.str p.1 :: _) []
          rw [ek]
          exact ReadsAll.cons (as := []) (bs := []) (.str p.1 t1) i1
        · show RelV p.2 e.val
          rw [h4]
          exact r2
mutual
theorem Rp.reads (I : Inv X pins σ H s) : ∀ {v : V} {d : PyData}, Rp H v d → ∀ u : Value, RelV v u → ∃ as, Reads s.heap u d as ∧ sysModules ∉ as
  | _, _, .non, u, r => by
    cases r
    exact ⟨_, Reads.none, by simp⟩
  | _, _, .bl b, u, r => by
    cases r
    exact ⟨_, Reads.bool b, by simp⟩
  | _, _, .int i, u, r => by
    obtain ⟨t, rfl⟩ := r
    exact ⟨_, Reads.int i t, by simp⟩
  | _, _, .str x, u, r => by
    obtain ⟨t, rfl⟩ := r
    exact ⟨_, Reads.str x t, by simp⟩
  | _, _, .lst hs hn ha, u, r => by
    cases r
    obtain ⟨its, rv, ⟨o, n, ho, hc, _, hd⟩, _⟩ := I.list (.inl (.inl hs))
    obtain ⟨as, hr, no⟩ := RpAll.reads I ha its rv
    refine ⟨_, Reads.list ho hc hd hr, fun m => ?_⟩
    rcases List.mem_cons.mp m with e | m
    · rw [← e] at hn
      exact absurd hn (by simp)
    · exact no m
  | _, _, .tup hs ha, u, r => by
    cases r
    obtain ⟨its, rv, ⟨o, ho, hc, n, hd⟩, _⟩ := I.tuple (.inl (.inl hs))
    obtain ⟨as, hr, no⟩ := RpAll.reads I ha its rv
    exact ⟨_, Reads.tuple ho hc hd hr, no⟩
  | _, _, .dic (a := a) (kvs := kvs) (ds := ds) hs ha, u, r => by
    cases r
    obtain ⟨_, hz, vs, rel, o, es, ep, ho, hx, hdat, _, hp, _⟩ := (show ObjOk X.prog X.w H s.heap a (.dK (kvs.map fun p => (Sum.inr p.1, p.2))) from I.hok a _ hs)
    obtain ⟨rk, rv⟩ := entries_read (h := s.heap) rel hp
    obtain ⟨as, hr, no⟩ := RpAll.reads I ha _ rv
    have el : (kvs.map fun p => PyData.str p.1).length = ds.length := by
      rw [List.length_map, ← ha.len, List.length_map]
    refine ⟨_, Reads.dict (as := []) (bs := as) ho hx.1 hdat (by rw [zip_fst el]; exact rk) (by rw [zip_snd el]; exact hr), fun m => ?_⟩
    rcases List.mem_cons.mp m with e | m
    · rw [← e] at hz
      exact absurd hz (by simp)
    · exact no m
theorem RpAll.reads (I : Inv X pins σ H s) : ∀ {vs : List V} {ds : List PyData}, RpAll H vs ds → ∀ us : List Value, Vals vs us → ∃ as, ReadsAll s.heap us ds as ∧ sysModules ∉ as
  | _, _, .nil, us, r => by
    cases r
    exact ⟨_, ReadsAll.nil, by simp⟩
  | _, _, .cons h1 h2, us, r => by
    cases r with
    | cons r1 r2 =>
      obtain ⟨as, q1, n1⟩ := Rp.reads I h1 _ r1
      obtain ⟨bs, q2, n2⟩ := RpAll.reads I h2 _ r2
      refine ⟨_, ReadsAll.cons q1 q2, fun m => ?_⟩
      rcases List.mem_append.mp m with m | m
      · exact n1 m
      · exact n2 m
end
end
section
variable {X : Cx} {k : Nat}
/-- repr(x) of data, no other repr under way -/
theorem call_reprD (hG : X.A.guards = some []) (hr : Room k X.A) : CallR X (.builtin "repr") (fun xs H Q => ∃ v d, xs = [v] ∧ Rp H v d ∧ d.showable = true ∧ d.shown.length ≤ sizeLine ∧ d.depth ≤ 60 ∧ Q (.str d.shown) H) := by
  intro pins s σ H xs us Q I r h
  obtain ⟨v, d, rfl, hp, hs, hz, hd, q⟩ := h
  obtain ⟨u, rfl, ru⟩ := vals1 r
  have un := hr.un
  have ref : ∀ a : Addr, v = .ref a → wpAny (model X.prog X.w) X.A (call (.builtin "repr") [u]) (EP X pins σ Q) X.xe s := by
    rintro a rfl
    cases ru
    obtain ⟨as, rd, no⟩ := hp.reads I _ rfl
    exact repr_of_reads' rd hs (fun _ => no) hG (by omega) (fun _ _ e => e) (fun h' t tk keep => ⟨.str d.shown, H, I.kept (t' := tk) keep, ⟨t, rfl⟩, q⟩) hz
  cases hp with
  | non =>
    cases ru
    exact PySem.P.repr_of_none ⟨.str _, H, I.tok _, ⟨_, rfl⟩, q⟩
  | bl b =>
    cases ru
    exact PySem.P.repr_of_bool ⟨.str _, H, I.tok _, ⟨_, rfl⟩, q⟩
  | int i =>
    obtain ⟨t, rfl⟩ := ru
    exact PySem.P.repr_of_int (of_decide_eq_true hs) ⟨.str _, H, I.tok _, ⟨_, rfl⟩, q⟩
  | str x =>
    obtain ⟨t, rfl⟩ := ru
    exact PySem.P.repr_of_str ⟨.str _, H, I.tok _, ⟨_, rfl⟩, q⟩ hz
  | lst _ _ _ => exact ref _ rfl
  | tup _ _ => exact ref _ rfl
  | dic _ _ => exact ref _ rfl
variable {es : List Expr} {t : TA} {pos : Pos}
/-- a written list, told apart from the modules' dict -/
theorem pe_lstN (h : PA X es t) : PE X (.List es pos) (fun σ H Q => t σ H fun xs H1 => xs.length ≤ sizeLine ∧ ∀ p, H1 p = none → (p == sysModules) = false → Q (.ref p) (upd H1 p (.lst xs))) := by
  refine ⟨fun pins s σ H Q I hq => wpAny_List_spliced (thn (h.run pos pins s σ H _ I hq) fun us s1 ⟨xs, H1, I1, r, z, q⟩ => ⟨by rw [← r.length]; exact z, ?_⟩)⟩
  have hf : H1 s1.heap.objs.size = none := I1.hok.fresh (Nat.le_refl _)
  have hne : (s1.heap.objs.size == sysModules) = false := beq_eq_false_iff_ne.mpr (Nat.ne_of_gt I1.big)
  exact ⟨.ref _, upd H1 _ (.lst xs), I1.laid (t' := s1.toks) (fun b u e => Heap.get?_push_of_some _ e) (Nat.le_refl _) ⟨z, us, 0, r, Heap.get?_push_size _ rfl⟩, rfl, q _ hf hne⟩
end
end K1

namespace K1
open PySem PySem.Spec PyProof.Rows L2
open PySem.W (Frag)
open TL (joinL tl tl_join)
/-! ### the text by places -/
def top (i : Nat) : Stmt := PySem.Challenge.pw_phrasejoins_k01_errors_made.main.body.getD i (.Pass ⟨0, 0, 0, 0⟩)
abbrev sPurse : Stmt := top 26
abbrev sMixed : Stmt := top 27
abbrev sDraw : Stmt := top 28
abbrev sPurses : Stmt := top 29
abbrev sOneOf : Stmt := top 30
abbrev sWord : Stmt := top 31
abbrev sFirst : Stmt := top 32
abbrev sCalled : Stmt := top 33
abbrev sBare : Stmt := top 34
abbrev sCode : Stmt := top 35
abbrev sIsError : Stmt := top 36
abbrev sRight : Stmt := top 37
abbrev sLaw : Stmt := top 38
theorem scMixed : FnScope ["_law_seed", "_law_spin", "_law_at", "_law_mixed_here"] ["_law_seed", "_law_spin", "_law_at"] (defScope sMixed) := ⟨rfl, rfl, rfl, by decide +kernel, rfl, by decide +kernel, by decide +kernel⟩
theorem scDraw : FnScope ["_law_purse_here", "_law_many", "_law_drawn", "_law_found", "_law_piece"] ["_law_purse_here", "_law_many"] (defScope sDraw) := ⟨rfl, rfl, rfl, by decide +kernel, rfl, by decide +kernel, by decide +kernel⟩
theorem scPurse : FnScope ["_law_script", "_law_at", "_law_seed"] ["_law_script", "_law_at"] (defScope sPurse) := ⟨rfl, rfl, rfl, by decide +kernel, rfl, by decide +kernel, by decide +kernel⟩
theorem scPurses : FnScope ["_law_script", "_law_few", "_law_at"] ["_law_script", "_law_few"] (defScope sPurses) := ⟨rfl, rfl, rfl, by decide +kernel, rfl, by decide +kernel, by decide +kernel⟩
theorem scOneOf : FnScope ["_law_purse_here", "_law_some"] ["_law_purse_here", "_law_some"] (defScope sOneOf) := ⟨rfl, rfl, rfl, by decide +kernel, rfl, by decide +kernel, by decide +kernel⟩
theorem scWord : FnScope ["_law_purse_here", "_law_size", "_law_spin"] ["_law_purse_here"] (defScope sWord) := ⟨rfl, rfl, rfl, by decide +kernel, rfl, by decide +kernel, by decide +kernel⟩
theorem scFirst : FnScope ["_law_thing", "_law_found"] ["_law_thing"] (defScope sFirst) := ⟨rfl, rfl, rfl, by decide +kernel, rfl, by decide +kernel, by decide +kernel⟩
theorem scCalled : FnScope ["_law_thing", "_law_found"] ["_law_thing"] (defScope sCalled) := ⟨rfl, rfl, rfl, by decide +kernel, rfl, by decide +kernel, by decide +kernel⟩
theorem scBare : FnScope ["_law_found"] [] (defScope sBare) := ⟨rfl, rfl, rfl, by decide +kernel, rfl, by decide +kernel, by decide +kernel⟩
theorem scCode : FnScope ["_law_error", "_law_found", "_law_at"] ["_law_error"] (defScope sCode) := ⟨rfl, rfl, rfl, by decide +kernel, rfl, by decide +kernel, by decide +kernel⟩
theorem scIsError : FnScope ["_law_error"] ["_law_error"] (defScope sIsError) := ⟨rfl, rfl, rfl, by decide +kernel, rfl, by decide +kernel, by decide +kernel⟩
theorem scRight : FnScope ["_law_some", "_law_noted", "_law_error", "_law_at"] ["_law_some", "_law_noted"] (defScope sRight) := ⟨rfl, rfl, rfl, by decide +kernel, rfl, by decide +kernel, by decide +kernel⟩
theorem scLaw : FnScope ["_law_script", "_law_purse_here", "_law_word_here", "_law_plain", "_law_thing", "_law_noted", "_law_some", "_law_called_here", "_law_later", "_law_rest", "_law_error"] ["_law_script"] (defScope sLaw) := ⟨rfl, rfl, rfl, by decide +kernel, rfl, by decide +kernel, by decide +kernel⟩
/-- a def of the top, as it stands behind it -/
structure Top (K : Frag) (mg : Str → Option Value) (x : Str) (st : Stmt) (ps : List Str) (f : Addr) (fd : FuncData) : Prop where
  F : Fun K x x st f fd
  g : mg x = some (.ref f)
  b : Binds K fd ps []
/-- the built-in names that the law asks for -/
structure Blt (mg : Str → Option Value) : Prop where
  sum : mg "sum" = none
  int : mg "int" = none
  max : mg "max" = none
  min : mg "min" = none
  len : mg "len" = none
  range : mg "range" = none
  isi : mg "isinstance" = none
  repr : mg "repr" = none
  list : mg "list" = none
  dict : mg "dict" = none
  tuple : mg "tuple" = none
  all : mg "all" = none
  ve : mg "ValueError" = none
section
variable {P : Program} {w : World} {K : Frag} {mg : Str → Option Value} {base : Heap}
/-! ### draws -/
/-- a purse at a, of which at most n draws were made -/
def PurseAt (H : Hp) (a : Addr) (n : Nat) : Prop := ∃ p0 p1 p2 p3 : Int, H a = some (.lst [.int p0, .int p1, .int p2, .int p3]) ∧ 0 ≤ p0 ∧ 0 ≤ p1 ∧ p1 < 2147483629 ∧ 0 ≤ p2 ∧ p2 ≤ n ∧ 0 ≤ p3 ∧ p3 ≤ 63
def spMixed : Sp := fun vs H Q _ => ∃ seed spin at_ : Int, vs = [.int seed, .int spin, .int at_] ∧ 0 ≤ seed ∧ seed < 2147483629 ∧ 0 ≤ spin ∧ spin ≤ 1099511627776 ∧ 0 ≤ at_ ∧ at_ ≤ 63 ∧ ∀ m : Int, 0 ≤ m → m < 2147483587 → Q (.int m) H
theorem ok_mixed {f : Addr} {fd : FuncData} (T : Top K mg "_law_mixed" sMixed ["_law_seed", "_law_spin", "_law_at"] f fd) (B : Blt mg) : FnOk P w K mg base CX0 1 f fd ["_law_seed", "_law_spin", "_law_at"] spMixed := by
  refine T.F.ok scMixed (fun vs H Q E h => ?_) (fun cdv A outer s H vs Q E hr h => ?_)
  · obtain ⟨_, _, _, rfl, _⟩ := h
    rfl
  · obtain ⟨seed, spin, at_, rfl, h0, h1, h2, h3, h4, h5, k⟩ := h
    refine ⟨_, (pss_cons (ps_set (i := 3) scMixed.nd rfl (Or.inl rfl) (pe_op op_add (pe_op op_mul (pv 0) pe_int) (pe_op op_mul (pe_op op_mul pe_int (pv 1)) (pv 1))))
      (pss_cons (ps_set (i := 3) scMixed.nd rfl (Or.inl rfl) (pe_op op_mod (pe_callTy call_int1 (by rfl) B.int (by decide +kernel) (pa_cons (pe_op op_add (pe_op op_add (pv 3) (pe_op op_mul pe_int (pv 2))) (pv 1)) pa_nil)) pe_int))
      (pss_cons (ps_set (i := 3) scMixed.nd rfl (Or.inl rfl) (pe_op op_mod (pe_callTy call_int1 (by rfl) B.int (by decide +kernel) (pa_cons (pe_op op_add (pe_op op_mul (pv 3) (pv 3)) pe_int) pa_nil)) pe_int))
      (pss_one (ps_ret (pe_op op_mod (pe_callTy call_int1 (by rfl) B.int (by decide +kernel) (pa_cons (pe_op op_mul (pv 3) pe_int) pa_nil)) pe_int)))))), ?_⟩
    refine ⟨_, rfl, _, _, rfl, rfl, .inl ⟨by omega, by omega⟩, _, rfl, _, _, rfl, rfl, .inl ⟨by decide, by decide⟩, _, rfl, _, _, rfl, rfl, .inr ⟨by omega, by omega⟩, _, _, rfl, rfl, ?_⟩
    refine ⟨_, rfl, _, rfl, _, _, rfl, rfl, .inl ⟨by decide, by decide⟩, _, _, rfl, rfl, _, rfl, _, _, rfl, rfl, .inl ⟨_, rfl, _, _, rfl, rfl, (by show (0 : Int) < 2147483647; decide), ?_⟩⟩
    generalize e1 : (seed * 69069 + 104729 * spin * spin + 7919 * at_ + spin) % 2147483647 = m1
    have b1 : 0 ≤ m1 ∧ m1 < 2147483647 := by omega
    refine ⟨_, rfl, _, rfl, _, _, rfl, rfl, .inl ⟨by omega, by omega⟩, _, _, rfl, rfl, .inl ⟨_, rfl, _, _, rfl, rfl, (by show (0 : Int) < 2147483629; decide), ?_⟩⟩
    generalize e2 : (m1 * m1 + 40503) % 2147483629 = m2
    have b2 : 0 ≤ m2 ∧ m2 < 2147483629 := by omega
    refine ⟨_, rfl, _, _, rfl, rfl, .inl ⟨by omega, by omega⟩, .inl ⟨_, rfl, _, _, rfl, rfl, (by show (0 : Int) < 2147483587; decide), ?_⟩⟩
    exact k _ (by omega) (by omega)
def spDraw : Sp := fun vs H Q _ => ∃ (a : Addr) (n : Nat) (many : Int), vs = [.ref a, .int many] ∧ PurseAt H a n ∧ n ≤ 1000000000000 ∧ 1 ≤ many ∧ many < 1048576 ∧
  ∀ (d : Int) (H' : Hp), 0 ≤ d → d < many → (∀ b, b ≠ a → H' b = H b) → PurseAt H' a (n + 1) → Q (.int d) H'
theorem bits_small {m : Int} (h1 : 1 ≤ m) (h2 : m < 1048576) : (1 : Int) + ((Builtin.Int.intBits m : Nat) : Int) / 28 = 1 := by
  have b : Builtin.Int.intBits m ≤ 20 := by
    unfold Builtin.Int.intBits
    split
    · omega
    · have e : m.natAbs < 2 ^ 20 := by
        have : (2 : Nat) ^ 20 = 1048576 := by decide
        omega
      have := (Nat.log2_lt (by omega)).mpr e
      omega
  omega
theorem ok_draw {f fm : Addr} {fd fdm : FuncData} (T : Top K mg "_law_draw" sDraw ["_law_purse_here", "_law_many"] f fd) (TM : Top K mg "_law_mixed" sMixed ["_law_seed", "_law_spin", "_law_at"] fm fdm) (B : Blt mg) :
    FnOk P w K mg base CX0 2 f fd ["_law_purse_here", "_law_many"] spDraw := by
  have GM : FnOk P w K mg base CX0 1 fm fdm ["_law_seed", "_law_spin", "_law_at"] spMixed := ok_mixed TM B
  refine T.F.ok scDraw (fun vs H Q E h => ?_) (fun cdv A outer s H vs Q E hr h => ?_)
  · obtain ⟨_, _, _, rfl, _⟩ := h
    rfl
  · obtain ⟨a, n, many, rfl, ⟨p0, p1, p2, p3, hp, h0, h1, h1', h2, h2', h3, h3'⟩, hn, hm1, hm2, k⟩ := h
    refine ⟨_, (pss_cons (ps_if (pt_cmpR op_gt (pe_ix ix_list (pv 0) pe_int (fun _ _ => rfl)) pe_int (nomark _))
        (pss_cons (ps_set (i := 2) scDraw.nd rfl (Or.inl rfl) (pe_op op_mod (pe_callTy call_int1 (by rfl) B.int (by decide +kernel) (pa_cons (pe_ix ix_list (pv 0) pe_int (fun _ _ => rfl)) pa_nil)) (pv 1)))
      (pss_cons (ps_asg (pe_op op_fdiv (pe_ix ix_list (pv 0) pe_int (fun _ _ => rfl)) (pv 1)) (pg_sub (pv 0) pe_int set_list))
      (pss_one (ps_ret (pv 2))))) pss_nil)
      (pss_cons (ps_set (i := 3) scDraw.nd rfl (Or.inl rfl) pe_int)
      (pss_cons (ps_for PassesOwn.never rfl (pi_range1 (by rfl) B.range (pa_cons (pe_op op_add pe_int (pe_op op_fdiv (pe_bits (pv 1)) pe_int)) pa_nil)) (pg_name (i := 4) scDraw.nd rfl (Or.inl rfl))
        (pss_cons (ps_asg (pe_op op_add (pe_ix ix_list (pv 0) pe_int (fun _ _ => rfl)) pe_int) (pg_sub (pv 0) pe_int set_list))
      (pss_one (ps_set (i := 3) scDraw.nd rfl (Or.inl rfl) (pe_op op_add (pe_op op_mul (pv 3) pe_int) (pe_call GM hr rfl TM.g TM.F.kp TM.b .nil pass0 (pa_cons (pe_ix ix_list (pv 0) pe_int (fun _ _ => rfl)) (pa_cons (pe_ix ix_list (pv 0) pe_int (fun _ _ => rfl)) (pa_cons (pe_ix ix_list (pv 0) pe_int (fun _ _ => rfl)) pa_nil)))))))))
      (pss_one (ps_ret (pe_op op_mod (pe_callTy call_int1 (by rfl) B.int (by decide +kernel) (pa_cons (pv 3) pa_nil)) (pv 1))))))), ?_⟩
    refine ⟨_, rfl, _, _, _, _, rfl, rfl, SqL.of hp, atI_nat (j := 0) rfl, _, _, rfl, rfl, _, rfl, ite2 (fun c => ?_) (fun c => ?_)⟩
    · have c' : 0 < p0 := of_decide_eq_true c
      refine ⟨_, rfl, _, _, _, _, rfl, rfl, SqL.of hp, atI_nat (j := 0) rfl, .inl ⟨_, rfl, _, rfl, _, _, rfl, rfl, (by show 0 < many; omega), ?_⟩⟩
      refine ⟨_, rfl, _, _, _, _, rfl, rfl, SqL.of hp, atI_nat (j := 0) rfl, _, rfl, _, _, rfl, rfl, ⟨by omega, by omega⟩, _, rfl, _, _, _, 0, rfl, rfl, hp, rfl, _, rfl, ?_⟩
      refine k _ _ (Int.emod_nonneg _ (by omega)) (Int.emod_lt_of_pos _ (by omega)) (fun b hb => upd_ne hb) ⟨p0 / many, p1, p2, p3, upd_same, Int.ediv_nonneg h0 (by omega), h1, h1', h2, by omega, h3, h3'⟩
    · refine ⟨_, rfl, _, rfl, _, _, rfl, rfl, ⟨by decide, by decide⟩, _, _, rfl, rfl, _, rfl, ?_, ?_, ?_⟩
      · rw [bits_small hm1 hm2]
        decide
      · rw [bits_small hm1 hm2]
        decide
      rw [bits_small hm1 hm2]
      refine for_range (lo := 0) (n := 1) (fun i σ H' => ∃ (v2 v4 : Option V) (z : Int), σ = [some (.ref a), some (.int many), v2, some (.int z), v4] ∧ (i = 0 → z = 0 ∧ H' = H) ∧ (i = 1 → (∀ b, b ≠ a → H' b = H b) ∧ PurseAt H' a (n + 1)))
        ⟨_, _, 0, rfl, fun _ => ⟨rfl, rfl⟩, fun e => by cases e⟩ ?_ ?_
      · rintro i σ H' hi ⟨v2, v4, z, rfl, hz, _⟩
        obtain rfl : i = 0 := by omega
        obtain ⟨rfl, rfl⟩ := hz rfl
        refine ⟨_, rfl, _, _, _, _, rfl, rfl, SqL.of hp, atI_nat (j := 2) rfl, _, _, rfl, rfl, _, rfl, _, _, _, 2, rfl, rfl, hp, rfl, ?_⟩
        refine ⟨_, rfl, _, _, rfl, rfl, .inl ⟨by decide, by decide⟩, _, rfl, _, _, _, _, rfl, rfl, SqL.of upd_same, atI_nat (j := 1) rfl, _, rfl, _, _, _, _, rfl, rfl, SqL.of upd_same, atI_nat (j := 2) rfl, _, rfl, _, _, _, _, rfl, rfl, SqL.of upd_same, atI_nat (j := 3) rfl, ?_⟩
        refine ⟨_, _, _, rfl, h1, h1', by omega, by omega, h3, h3', fun m m0 m1 => ⟨_, _, rfl, rfl, ?_⟩⟩
        exact ⟨_, _, _, rfl, (fun e => by cases e), fun _ => ⟨fun b hb => upd_ne hb, p0, p1, p2 + 1, p3, upd_same, h0, h1, h1', by omega, by omega, h3, h3'⟩⟩
      · rintro σ H' ⟨v2, v4, z, rfl, _, hz⟩
        obtain ⟨z1, z2⟩ := hz rfl
        exact ⟨_, rfl, .inl ⟨_, rfl, _, rfl, _, _, rfl, rfl, (by show 0 < many; omega), k _ _ (Int.emod_nonneg _ (by omega)) (Int.emod_lt_of_pos _ (by omega)) z1 z2⟩⟩
/-! ### purses -/
theorem cut_ints (ns : List Int) (lo hi : Option Int) : ∃ ms : List Int, cutV (ns.map V.int) lo hi = ms.map V.int := by
  unfold cutV
  exact ⟨_, by rw [List.map_take, List.map_drop]⟩
def spPurse (K : Frag) : Sp := fun vs H Q _ => ∃ (a : Addr) (ns : List Int) (i : Int), vs = [.ref a, .int i] ∧ SqL K H a (ns.map V.int) ∧ 0 ≤ i ∧ i ≤ 63 ∧ ∀ (p : Addr) (H' : Hp), Same H H' → H p = none → PurseAt H' p 0 → Q (.ref p) H'
theorem same_upd {H : Hp} {p : Addr} {o : HO} (h : H p = none) : Same H (upd H p o) := fun b u e => by
  rw [upd_ne (ne_of_none e h)]
  exact e
theorem ok_purse {f : Addr} {fd : FuncData} (T : Top K mg "_law_purse" sPurse ["_law_script", "_law_at"] f fd) (B : Blt mg) : FnOk P w K mg base CX0 1 f fd ["_law_script", "_law_at"] (spPurse K) := by
  refine T.F.ok scPurse (fun vs H Q E h => ?_) (fun cdv A outer s H vs Q E hr h => ?_)
  · obtain ⟨_, _, _, rfl, _⟩ := h
    rfl
  · obtain ⟨a, ns, i, rfl, hS, i0, i1, k⟩ := h
    refine ⟨_, (pss_cons (ps_set (i := 2) scPurse.nd rfl (Or.inl rfl) (pe_callB (cr_sum rfl) (by rfl) B.sum (by decide +kernel) (pa_cons (pe_slice sl_list (pv 0) (po_some (pv 1)) (po_some (pe_op op_add (pv 1) pe_int))) pa_nil)))
      (pss_one (ps_ret (pe_lst (pa_cons (pe_op op_mod (pe_callTy call_int1 (by rfl) B.int (by decide +kernel) (pa_cons (pe_callB (call_max2 rfl) (by rfl) B.max (by decide +kernel) (pa_cons (pe_op op_sub (pv 2) (pe_op op_pow pe_int pe_int)) (pa_cons pe_int pa_nil))) pa_nil)) (pe_op op_powB (pe_op op_pow pe_int pe_int) pe_int)) (pa_cons (pe_op op_mod (pe_callTy call_int1 (by rfl) B.int (by decide +kernel) (pa_cons (pv 2) pa_nil)) pe_int) (pa_cons pe_int (pa_cons (pv 1) pa_nil)))))))), ?_⟩
    obtain ⟨ms, em⟩ := cut_ints ns (some i) (some (i + 1))
    refine ⟨_, rfl, _, rfl, i, rfl, _, rfl, _, _, rfl, rfl, i + 1, rfl, a, _, rfl, hS, fun q hq => ⟨q, ms, rfl, ?_, ?_⟩⟩
    · rw [em]
      exact SqL.of upd_same
    · refine ⟨_, rfl, _, _, rfl, rfl, ⟨by decide, by decide, by decide⟩, _, _, rfl, rfl, _, _, rfl, .inl ⟨_, rfl, _, _, rfl, rfl, ⟨by decide, by decide, by decide⟩, _, _, rfl, rfl, ⟨by decide, by decide +kernel⟩, _, _, rfl, rfl, (show (0 : Int) < (10 ^ (60 : Int).toNat) ^ (8 : Int).toNat by decide +kernel), ?_⟩⟩
      refine ⟨_, rfl, .inl ⟨_, rfl, _, _, rfl, rfl, (by show (0 : Int) < 2147483629; decide), _, rfl, (by show 4 ≤ sizeLine; decide), fun p hp => ?_⟩⟩
      have hp0 : H p = none := (same_upd hq).free hp
      refine k p _ ((same_upd hq).trans (same_upd hp)) hp0 ⟨_, _, 0, i, upd_same, Int.emod_nonneg _ (by decide +kernel), Int.emod_nonneg _ (by decide), Int.emod_lt_of_pos _ (by decide), Int.le_refl _, Int.le_refl _, i0, i1⟩
def spPurses (K : Frag) : Sp := fun vs H Q _ => ∃ (a : Addr) (ns : List Int), vs = [.ref a, .int 1] ∧ SqL K H a (ns.map V.int) ∧
  ∀ (L p : Addr) (H' : Hp), Same H H' → H L = none → H p = none → L ≠ p → H' L = some (.lst [.ref p]) → PurseAt H' p 0 → Q (.ref L) H'
theorem ok_purses {f fp : Addr} {fd fdp : FuncData} (T : Top K mg "_law_purses" sPurses ["_law_script", "_law_few"] f fd) (TP : Top K mg "_law_purse" sPurse ["_law_script", "_law_at"] fp fdp) (B : Blt mg) :
    FnOk P w K mg base CX0 2 f fd ["_law_script", "_law_few"] (spPurses K) := by
  have GP : FnOk P w K mg base CX0 1 fp fdp ["_law_script", "_law_at"] (spPurse K) := ok_purse TP B
  refine T.F.ok scPurses (fun vs H Q E h => ?_) (fun cdv A outer s H vs Q E hr h => ?_)
  · obtain ⟨_, _, rfl, _⟩ := h
    rfl
  · obtain ⟨a, ns, rfl, hS, k⟩ := h
    refine ⟨_, pss_one (ps_ret (pe_lc (own := [("_law_at", 2)]) (g := gName 2) (tt := tYes) rfl scPurses.nd (pi_range1 (by rfl) B.range (pa_cons (pe_callB (call_max2 rfl) (by rfl) B.max (by decide +kernel) (pa_cons pe_int (pa_cons (pe_callB (call_min2 rfl) (by rfl) B.min (by decide +kernel) (pa_cons (pv 1) (pa_cons (pe_callB call_len_seq (by rfl) B.len PySem.boot_len (pa_cons (pv 0) pa_nil)) pa_nil))) pa_nil))) pa_nil))
      (blkOk_by (N := ["_law_script", "_law_few", "_law_at"]) (sc := defScope sPurses) (by decide +kernel)) (fun _ _ _ _ _ => pg_name (i := 2) scPurses.nd rfl (Or.inl rfl)) (fun _ _ _ _ _ => pts_nil)
      (fun _ _ _ _ _ => (pe_call GP hr rfl TP.g TP.F.kp TP.b .nil pass0 (pa_cons (pv 0) (pa_cons (pv 2) pa_nil)))))), ?_⟩
    have e : ∀ m : Nat, (if (if (m : Int) < 1 then (m : Int) else 1) > 1 then (if (m : Int) < 1 then (m : Int) else 1) else 1) = (1 : Int) := by
      intro m
      split <;> split <;> omega
    refine ⟨_, rfl, _, rfl, a, _, rfl, .inl hS, _, _, rfl, _, _, rfl, _, rfl, ?_, ?_, ?_⟩
    · rw [e]
      decide
    · rw [e]
      decide
    rw [e]
    intro D hD
    refine lc_range (lo := 0) (n := 1) (fun i H' => (i = 0 → H' = upd H D (.lst [])) ∧ (i = 1 → ∃ p, Same H H' ∧ H p = none ∧ D ≠ p ∧ H' D = some (.lst [.ref p]) ∧ PurseAt H' p 0))
      ⟨fun _ => rfl, fun e => by cases e⟩ ?_ ?_
    · rintro i H' hi ⟨hz, _⟩
      obtain rfl : i = 0 := by omega
      obtain rfl := hz rfl
      refine ⟨rfl, _, rfl, _, rfl, a, ns, _, rfl, (same_upd hD).seq hS, by decide, by decide, fun p H2 s2 np h2 => ?_⟩
      have nDp : D ≠ p := ne_of_none upd_same np
      have eD : H2 D = some (.lst []) := s2 _ _ upd_same
      refine ⟨[], eD, by decide, fun e => (by cases e), fun _ => ⟨p, fun b o q => ?_, (same_upd hD).free np, nDp, upd_same, ?_⟩⟩
      · rw [upd_ne (ne_of_none q hD)]
        exact s2 _ _ (same_upd hD _ _ q)
      · obtain ⟨p0, p1, p2, p3, hp, r⟩ := h2
        exact ⟨p0, p1, p2, p3, by rw [upd_ne nDp.symm]; exact hp, r⟩
    · rintro H' ⟨_, hz⟩
      obtain ⟨p, s1, np, nDp, eD, hp⟩ := hz rfl
      exact k D p H' s1 hD np nDp eD hp
/-! ### what is drawn -/
def spOneOf : Sp := fun vs H Q _ => ∃ (a L : Addr) (n : Nat) (xs : List V), vs = [.ref a, .ref L] ∧ PurseAt H a n ∧ n ≤ 1000000000000 ∧ L ≠ a ∧ H L = some (.lst xs) ∧ 1 ≤ xs.length ∧ xs.length < 1048576 ∧
  ∀ (i : Nat) (x : V) (H' : Hp), xs[i]? = some x → (∀ b, b ≠ a → H' b = H b) → PurseAt H' a (n + 1) → Q x H'
theorem ok_oneOf {f fd_ fm : Addr} {fd fdd fdm : FuncData} (T : Top K mg "_law_one_of" sOneOf ["_law_purse_here", "_law_some"] f fd) (TD : Top K mg "_law_draw" sDraw ["_law_purse_here", "_law_many"] fd_ fdd)
    (TM : Top K mg "_law_mixed" sMixed ["_law_seed", "_law_spin", "_law_at"] fm fdm) (B : Blt mg) : FnOk P w K mg base CX0 3 f fd ["_law_purse_here", "_law_some"] spOneOf := by
  have GD : FnOk P w K mg base CX0 2 fd_ fdd ["_law_purse_here", "_law_many"] spDraw := ok_draw TD TM B
  refine T.F.ok scOneOf (fun vs H Q E h => ?_) (fun cdv A outer s H vs Q E hr h => ?_)
  · obtain ⟨_, _, _, _, rfl, _⟩ := h
    rfl
  · obtain ⟨a, L, n, xs, rfl, hp, hn, nLa, hL, h1, h2, k⟩ := h
    refine ⟨_, pss_one (ps_ret (pe_ix ix_list (pv 1) (pe_call GD hr rfl TD.g TD.F.kp TD.b .nil pass0 (pa_cons (pv 0) (pa_cons (pe_callB call_len_seq (by rfl) B.len PySem.boot_len (pa_cons (pv 1) pa_nil)) pa_nil))) (fun _ _ => rfl))), ?_⟩
    refine ⟨_, rfl, _, rfl, _, rfl, L, _, rfl, .inl (SqL.of hL), a, n, _, rfl, hp, hn, by omega, by omega, fun d H' d0 d1 off hp' => ?_⟩
    obtain ⟨j, rfl⟩ := Int.eq_ofNat_of_zero_le d0
    have hj : j < xs.length := by omega
    refine ⟨L, xs, _, xs[j], rfl, rfl, SqL.of (by rw [off L nLa]; exact hL), atI_nat (by simp [hj]), ?_⟩
    exact k j _ H' (by simp [hj]) off hp'
/-- a word: one to eight letters -/
def IsW (z : Str) : Prop := 1 ≤ z.length ∧ z.length ≤ 8 ∧ ∀ c ∈ z.cps.toList, 97 ≤ c ∧ c ≤ 122
def abc : Str := "abcdefghijklmnopqrstuvwxyz"
theorem abc_at : ∀ j : Nat, j < 26 → abc.cps.toList[j]? = some (97 + j) := by decide +kernel
/-- the heap is kept but at a -/
def KeepBut (a : Addr) (H H' : Hp) : Prop := ∀ b o, H b = some o → b ≠ a → H' b = some o
theorem KeepBut.refl (a : Addr) (H : Hp) : KeepBut a H H := fun _ _ e _ => e
theorem KeepBut.trans {a : Addr} {H H1 H2 : Hp} (h : KeepBut a H H1) (h' : KeepBut a H1 H2) : KeepBut a H H2 := fun b o e n => h' b o (h b o e n) n
theorem KeepBut.of_same {a : Addr} {H H' : Hp} (h : Same H H') : KeepBut a H H' := fun b o e _ => h b o e
theorem KeepBut.of_off {a : Addr} {H H' : Hp} (h : ∀ b, b ≠ a → H' b = H b) : KeepBut a H H' := fun b o e n => by rw [h b n]; exact e
theorem KeepBut.free {a b : Addr} {H H' : Hp} (h : KeepBut a H H') (n : H' b = none) (hb : b ≠ a) : H b = none := by
  cases e : H b with
  | none => rfl
  | some o =>
    rw [h b o e hb] at n
    cases n
def spWord : Sp := fun vs H Q _ => ∃ (a : Addr) (n : Nat), vs = [.ref a] ∧ PurseAt H a n ∧ n ≤ 900000000000 ∧ ∀ (z : Str) (H' : Hp), IsW z → KeepBut a H H' → PurseAt H' a (n + 10) → Q (.str z) H'
theorem join_signs : ∀ cs : List Nat, joinL [] (cs.map fun c => [c]) = cs
  | [] => rfl
  | [c] => rfl
  | c :: d :: r => by
    show [c] ++ ([] ++ joinL [] ((d :: r).map fun c => [c])) = c :: d :: r
    rw [join_signs (d :: r)]
    rfl
theorem word_of (cs : List Nat) : (Txt.join ("" : Str) (cs.map fun c => (⟨#[c]⟩ : Str))).cps.toList = cs := by
  rw [TL.join_eq]
  show tl (Str.join "" (cs.map fun c => (⟨#[c]⟩ : Str))) = cs
  rw [tl_join, List.map_map]
  exact join_signs cs
theorem isW_of {cs : List Nat} (h1 : 1 ≤ cs.length) (h2 : cs.length ≤ 8) (h : ∀ c ∈ cs, 97 ≤ c ∧ c ≤ 122) : IsW (Txt.join ("" : Str) (cs.map fun c => (⟨#[c]⟩ : Str))) := by
  have e := word_of cs
  have l : (Txt.join ("" : Str) (cs.map fun c => (⟨#[c]⟩ : Str))).length = cs.length := by
    rw [← congrArg List.length e]
    exact Array.length_toList.symm
  exact ⟨by omega, by omega, by rw [e]; exact h⟩
theorem sum_ones : ∀ cs : List Nat, ((cs.map fun c => (⟨#[c]⟩ : Str)).map (·.length)).sum = cs.length
  | [] => rfl
  | c :: r => by
    show 1 + ((r.map fun c => (⟨#[c]⟩ : Str)).map (·.length)).sum = r.length + 1
    rw [sum_ones r]
    omega
theorem ok_word {f fd_ fm : Addr} {fd fdd fdm : FuncData} (T : Top K mg "_law_word" sWord ["_law_purse_here"] f fd) (TD : Top K mg "_law_draw" sDraw ["_law_purse_here", "_law_many"] fd_ fdd)
    (TM : Top K mg "_law_mixed" sMixed ["_law_seed", "_law_spin", "_law_at"] fm fdm) (B : Blt mg) : FnOk P w K mg base CX0 3 f fd ["_law_purse_here"] spWord := by
  have GD : FnOk P w K mg base CX0 2 fd_ fdd ["_law_purse_here", "_law_many"] spDraw := ok_draw TD TM B
  refine T.F.ok scWord (fun vs H Q E h => ?_) (fun cdv A outer s H vs Q E hr h => ?_)
  · obtain ⟨_, _, rfl, _⟩ := h
    rfl
  · obtain ⟨a, n, rfl, hp, hn, k⟩ := h
    refine ⟨_, (pss_cons (ps_set (i := 1) scWord.nd rfl (Or.inl rfl) (pe_op op_add pe_int (pe_call GD hr rfl TD.g TD.F.kp TD.b .nil pass0 (pa_cons (pv 0) (pa_cons (pe_ifExp (pt_cmpR op_eq (pe_call GD hr rfl TD.g TD.F.kp TD.b .nil pass0 (pa_cons (pv 0) (pa_cons pe_int pa_nil))) pe_int (nomark _)) pe_int pe_int) pa_nil)))))
      (pss_one (ps_ret (pe_join pe_str (pe_lc (own := [("_law_spin", 2)]) (g := gName 2) (tt := tYes) rfl scWord.nd (pi_range1 (by rfl) B.range (pa_cons (pv 1) pa_nil))
        (blkOk_by (N := ["_law_purse_here", "_law_size", "_law_spin"]) (sc := defScope sWord) (by decide +kernel)) (fun _ _ _ _ _ => pg_name (i := 2) scWord.nd rfl (Or.inl rfl)) (fun _ _ _ _ _ => pts_nil)
        (fun _ _ _ _ _ => pe_ix ix_str pe_str (pe_call GD hr rfl TD.g TD.F.kp TD.b .nil pass0 (pa_cons (pv 0) (pa_cons pe_int pa_nil))) (fun _ _ => rfl))))))), ?_⟩
    refine ⟨_, rfl, _, rfl, a, n, _, rfl, hp, by omega, by decide, by decide, fun d1 H1 c0 c1 off1 hp1 => ⟨rfl, _, rfl, ?_⟩⟩
    refine ite2 (fun _ => ?_) (fun _ => ?_)
    all_goals
      refine ⟨a, n + 1, _, rfl, hp1, by omega, by decide, by decide, fun d2 H2 e0 e1 off2 hp2 => ?_⟩
      have e8 : d2 < 8 := by omega
      have kb : KeepBut a H H2 := (KeepBut.of_off off1).trans (.of_off off2)
      refine ⟨_, _, rfl, rfl, ⟨_, rfl⟩, _, rfl, _, rfl, by omega, by omega, fun D hD => ?_⟩
      have nDa : D ≠ a := by
        obtain ⟨_, _, _, _, e, _⟩ := hp2
        exact (ne_of_none e hD).symm
      refine lc_range (lo := 0) (n := (1 + d2).toNat) (fun i H' => KeepBut a H H' ∧ PurseAt H' a (n + 2 + i) ∧ ∃ cs : List Nat, H' D = some (.lst (cs.map fun c => V.str ⟨#[c]⟩)) ∧ cs.length = i ∧ ∀ c ∈ cs, 97 ≤ c ∧ c ≤ 122)
        ⟨fun b o q hb => ?_, ?_, [], upd_same, rfl, fun c hc => nomatch hc⟩ ?_ ?_
      · rw [upd_ne (ne_of_none (kb b o q hb) hD)]
        exact kb b o q hb
      · obtain ⟨p0, p1, p2, p3, q, r⟩ := hp2
        exact ⟨p0, p1, p2, p3, by rw [upd_ne nDa.symm]; exact q, r⟩
      · rintro i H' hi ⟨kb', hp', cs, eD, el, hc⟩
        have hi8 : i < 8 := by omega
        refine ⟨rfl, _, rfl, a, n + 2 + i, 26, rfl, hp', by omega, by decide, by decide, fun d3 H3 g0 g1 off3 hp3 => ?_⟩
        obtain ⟨j, rfl⟩ := Int.eq_ofNat_of_zero_le g0
        have hj : j < 26 := by omega
        refine ⟨abc, _, _, rfl, rfl, by decide, atI_nat (abc_at j hj), _, (by rw [off3 D nDa]; exact eD), ?_, ?_, ?_, cs ++ [97 + j], ?_, ?_, ?_⟩
        · rw [List.length_map, sizeLine_eq]
          omega
        · intro b o q hb
          have q1 : H3 b = some o := by
            rw [off3 b hb]
            exact kb' b o q hb
          rw [upd_ne ?_]
          · exact q1
          · rintro rfl
            have q2 := kb b o q hb
            rw [hD] at q2
            cases q2
        · obtain ⟨p0, p1, p2, p3, q, r⟩ := hp3
          exact ⟨p0, p1, p2, p3, by rw [upd_ne nDa.symm]; exact q, r⟩
        · rw [upd_same, List.map_append]
          rfl
        · rw [List.length_append, el]
          rfl
        · intro c hc'
          rcases List.mem_append.mp hc' with q | q
          · exact hc c q
          · have q' := List.mem_singleton.mp q
            omega
      · rintro H' ⟨kb', hp', cs, eD, el, hc⟩
        have hl : cs.length = (1 + d2).toNat := el
        refine ⟨_, D, cs.map fun c => (⟨#[c]⟩ : Str), rfl, rfl, .inl (SqL.of (by rw [eD, List.map_map]; rfl)), ?_, ?_⟩
        · rw [sum_ones, List.length_map]
          show cs.length + cs.length * 0 ≤ 16777216
          omega
        · refine k _ H' (isW_of (by omega) (by omega) hc) kb' ?_
          obtain ⟨p0, p1, p2, p3, q, r1, r2, r3, r4, r5, r6⟩ := hp'
          exact ⟨p0, p1, p2, p3, q, r1, r2, r3, r4, by omega, r6⟩
end
end K1

namespace K1
open PySem PySem.Spec PyProof.Rows L2
open PySem.W (Frag)
/-! ### lists of errors -/
def ErrsAt (H : Hp) (cs : List Addr) (xs : List V) (v : V) : Prop := Paired (fun C x => ∃ e, x = V.ref e ∧ ErrAt H C e v) cs xs
theorem Paired.impl {α β : Type} {F G : α → β → Prop} : ∀ {l : List α} {r : List β}, Paired F l r → (∀ a b, F a b → G a b) → Paired G l r
  | _, _, .nil, _ => .nil
  | _, _, .cons h t, f => .cons (f _ _ h) (Paired.impl t f)
theorem Paired.app {α β : Type} {F : α → β → Prop} : ∀ {l l' : List α} {r r' : List β}, Paired F l r → Paired F l' r' → Paired F (l ++ l') (r ++ r')
  | _, _, _, _, .nil, h => h
  | _, _, _, _, .cons h t, h' => .cons h (Paired.app t h')
theorem ErrsAt.same {H H' : Hp} {cs : List Addr} {xs : List V} {v : V} (k : Same H H') (h : ErrsAt H cs xs v) : ErrsAt H' cs xs v :=
  Paired.impl h fun _ _ ⟨e, e1, e2⟩ => ⟨e, e1, e2.same k⟩
theorem ErrsAt.len {H : Hp} {cs : List Addr} {xs : List V} {v : V} (h : ErrsAt H cs xs v) : cs.length = xs.length := Paired.length h
theorem PE.imp {X : Cx} {e : Expr} {t t' : TE} (h : PE X e t) (i : ∀ σ H Q, t' σ H Q → t σ H Q) : PE X e t' := ⟨fun pins s σ H Q I q => h.run pins s σ H Q I (i _ _ _ q)⟩
/-- calls, one behind another, that make errors of the classes cs with the same value -/
inductive EC (X : Cx) (val : L2.St → V → Prop) : List Expr → List Addr → Prop
  | nil : EC X val [] []
  | cons {e : Expr} {es : List Expr} {C : Addr} {cs : List Addr} : PE X e (fun σ H Q => ∃ v, val σ v ∧ Makes C v H Q) → starEach (e :: es) X.env = (false, eval e X.env) :: starEach es X.env → EC X val es cs → EC X val (e :: es) (C :: cs)
theorem pa_ec {X : Cx} {val : L2.St → V → Prop} : ∀ {es : List Expr} {cs : List Addr}, EC X val es cs → PA X es (fun σ H Q => ∃ v, val σ v ∧ ∀ H' xs, Same H H' → ErrsAt H' cs xs v → Q xs H')
  | _, _, .nil => ⟨fun pos pins s σ H Q I h => pa_nil.run pos pins s σ H Q I (by
      obtain ⟨v, _, k⟩ := h
      exact k H [] (Same.refl H) .nil)⟩
  | _, _, .cons he hs t => ⟨fun pos pins s σ H Q I h => (pa_cons he (pa_ec t) hs).run pos pins s σ H Q I (by
      obtain ⟨v, hv, k⟩ := h
      exact ⟨v, hv, fun H1 e s1 _ ha => ⟨v, hv, fun H' xs s2 hE => k H' (.ref e :: xs) (s1.trans s2) (.cons ⟨e, rfl, ha.same s2⟩ hE)⟩⟩)⟩
section
variable {X : Cx} {nm : Str} {C fI : Addr} {p pos q kpos : Pos} {x : Str}
theorem ec_1 {es : List Expr} {cs : List Addr} (T : ErrC X.K X.mg nm C fI) (hr : Room 1 X.A) (hv : PE X (.Name x q) (tVar 0)) (r : EC X (fun σ v => σ[0]? = some (some v)) es cs) (hg : Gl X nm := by rfl) (hdb : (nm == ("__debug__" : Str)) = false := by decide)
    (hs : starEach (.Call (.Name nm p) [.Name x q] [] pos :: es) X.env = (false, eval (.Call (.Name nm p) [.Name x q] [] pos) X.env) :: starEach es X.env := by rfl) :
    EC X (fun σ v => σ[0]? = some (some v)) (.Call (.Name nm p) [.Name x q] [] pos :: es) (C :: cs) := .cons (pe_err1 T hr hv hg hdb) hs r
theorem ec_K {es : List Expr} {cs : List Addr} (T : ErrC X.K X.mg nm C fI) (hr : Room 1 X.A) (hv : PE X (.Name x q) (tVar 0)) (r : EC X (fun σ v => σ[0]? = some (some v)) es cs) (hg : Gl X nm := by rfl) (hdb : (nm == ("__debug__" : Str)) = false := by decide)
    (hs : starEach (.Call (.Name nm p) [] [⟨some "value", .Name x q, kpos⟩] pos :: es) X.env = (false, eval (.Call (.Name nm p) [] [⟨some "value", .Name x q, kpos⟩] pos) X.env) :: starEach es X.env := by rfl) :
    EC X (fun σ v => σ[0]? = some (some v)) (.Call (.Name nm p) [] [⟨some "value", .Name x q, kpos⟩] pos :: es) (C :: cs) := .cons (pe_errK T hr hv hg hdb) hs r
theorem ec_0 {es : List Expr} {cs : List Addr} (T : ErrC X.K X.mg nm C fI) (hr : Room 1 X.A) (r : EC X (fun _ v => v = .non) es cs) (hg : Gl X nm := by rfl) (hdb : (nm == ("__debug__" : Str)) = false := by decide)
    (hs : starEach (.Call (.Name nm p) [] [] pos :: es) X.env = (false, eval (.Call (.Name nm p) [] [] pos) X.env) :: starEach es X.env := by rfl) :
    EC X (fun _ v => v = .non) (.Call (.Name nm p) [] [] pos :: es) (C :: cs) := .cons (PE.imp (pe_err0 T hr hg hdb) fun σ H Q ⟨v, e, h⟩ => by rw [e] at h; exact h) hs r
end
/-- the classes of errors that have a field, in the table's order -/
structure Errs (K : Frag) (mg : Str → Option Value) (C I : Nat → Addr) : Prop where
  e0 : ErrC K mg "InvalidKind" (C 0) (I 0)
  e1 : ErrC K mg "InvalidRow" (C 1) (I 1)
  e2 : ErrC K mg "InvalidPlains" (C 2) (I 2)
  e3 : ErrC K mg "InvalidMap" (C 3) (I 3)
  e4 : ErrC K mg "InvalidCount" (C 4) (I 4)
  e5 : ErrC K mg "InvalidPlace" (C 5) (I 5)
  e6 : ErrC K mg "InvalidDerivation" (C 6) (I 6)
  e7 : ErrC K mg "InvalidLetters" (C 7) (I 7)
  e8 : ErrC K mg "InvalidWord" (C 8) (I 8)
  e9 : ErrC K mg "InvalidTurns" (C 9) (I 9)
  e10 : ErrC K mg "InvalidChain" (C 10) (I 10)
  e11 : ErrC K mg "InvalidWorld" (C 11) (I 11)
  e12 : ErrC K mg "InvalidTable" (C 12) (I 12)
  e13 : ErrC K mg "InvalidLots" (C 13) (I 13)
  e14 : ErrC K mg "InvalidBook" (C 14) (I 14)
  e15 : ErrC K mg "InvalidSentence" (C 15) (I 15)
  e16 : ErrC K mg "InvalidDesk" (C 16) (I 16)
  e17 : ErrC K mg "InvalidScript" (C 17) (I 17)
  e18 : ErrC K mg "InvalidPaper" (C 18) (I 18)
  e19 : ErrC K mg "InvalidRecord" (C 19) (I 19)
  e20 : ErrC K mg "Refused" (C 20) (I 20)
  g21 : mg "NothingToUndo" = some (.ref (C 21))
  g22 : mg "NothingToRedo" = some (.ref (C 22))
def csOf (C : Nat → Addr) : List Addr := (List.range 21).map C
section
variable {P : Program} {w : World} {K : Frag} {mg : Str → Option Value} {base : Heap} {C I : Nat → Addr}
def spMany (C : Nat → Addr) : Sp := fun vs H Q _ => ∃ v, vs = [v] ∧ ∀ (H' : Hp) (L : Addr) (xs : List V), Same H H' → H L = none → H' L = some (.lst xs) → ErrsAt H' (csOf C) xs v → Q (.ref L) H'
def spBare (C : Nat → Addr) : Sp := fun vs H Q _ => vs = [] ∧ ∀ (H' : Hp) (L : Addr) (xs : List V), Same H H' → H L = none → H' L = some (.lst xs) → ErrsAt H' (csOf C) xs .non → Q (.ref L) H'
/-- behind the heap H: at L a list of errors of the classes cs -/
def GrowAt (H Hc : Hp) (L : Addr) (cs : List Addr) (v : V) : Prop := ∃ xs, Same H Hc ∧ H L = none ∧ Hc L = some (.lst xs) ∧ ErrsAt Hc cs xs v
theorem few_line {n : Nat} (h : n ≤ 100) : n ≤ sizeLine := by
  rw [sizeLine_eq]
  omega
theorem seq_set {te : TE} {i : Nat} {u : TS} {D : Ends} {σ : L2.St} {H : Hp} (h : te σ H fun x H1 => u D (σ.set i (some x)) H1) : tSeq (tAsg te (gName i)) u D σ H := h
theorem grow_first {val : L2.St → V → Prop} {σ : L2.St} {v : V} {H : Hp} {cs : List Addr} {Q : VK} (hv : val σ v) (few : cs.length ≤ 100) (k : ∀ H' p, GrowAt H H' p cs v → Q (.ref p) H') :
    tLst (fun σ H Q => ∃ v, val σ v ∧ ∀ H' xs, Same H H' → ErrsAt H' cs xs v → Q xs H') σ H Q := by
  refine ⟨v, hv, fun H1 xs s1 e1 => ⟨few_line (by rw [← e1.len]; exact few), fun L nL => k _ L ⟨xs, s1.trans (same_upd nL), s1.free nL, upd_same, e1.same (same_upd nL)⟩⟩⟩
theorem grow_more {val : L2.St → V → Prop} {σ : L2.St} {v : V} {i : Nat} {H Hc : Hp} {L : Addr} {cs ds : List Addr} {Q : VK} (hσ : σ[i]? = some (some (.ref L))) (hv : val σ v) (g : GrowAt H Hc L cs v) (few : cs.length + ds.length ≤ 100)
    (k : ∀ H' p, GrowAt H H' p (cs ++ ds) v → Q (.ref p) H') :
    tOp rCat (tVar i) (tLst fun σ H Q => ∃ v, val σ v ∧ ∀ H' xs, Same H H' → ErrsAt H' ds xs v → Q xs H') σ Hc Q := by
  obtain ⟨xs, s0, nL, hL, e0⟩ := g
  refine ⟨_, hσ, v, hv, fun H1 ys s1 e1 => ⟨few_line (by rw [← e1.len]; omega), fun M nM => ?_⟩⟩
  have hL1 := s1 _ _ hL
  have nLM : L ≠ M := ne_of_none hL1 nM
  refine ⟨L, M, xs, ys, rfl, rfl, by rw [upd_ne nLM]; exact hL1, upd_same, few_line (by rw [← e0.len, ← e1.len]; omega), fun p np => k _ p ⟨xs ++ ys, ?_, ?_, upd_same, ?_⟩⟩
  · exact ((s0.trans s1).trans (same_upd nM)).trans (same_upd np)
  · exact ((s0.trans s1).trans (same_upd nM)).free np
  · exact Paired.app (e0.same ((s1.trans (same_upd nM)).trans (same_upd np))) (e1.same ((same_upd nM).trans (same_upd np)))
theorem ok_first {f : Addr} {fd : FuncData} (T : Top K mg "_law_first" sFirst ["_law_thing"] f fd) (R : Errs K mg C I) : FnOk P w K mg base CX0 2 f fd ["_law_thing"] (spMany C) := by
  refine T.F.ok scFirst (fun vs H Q E h => ?_) (fun cdv A outer s H vs Q E hr h => ?_)
  · obtain ⟨_, rfl, _⟩ := h
    rfl
  · obtain ⟨v, rfl, k⟩ := h
    refine ⟨_, (pss_cons (ps_set (i := 1) scFirst.nd rfl (Or.inl rfl) (pe_lst (pa_ec (ec_1 R.e0 hr (pv 0) (ec_1 R.e1 hr (pv 0) (ec_1 R.e2 hr (pv 0) (ec_1 R.e3 hr (pv 0) (ec_1 R.e4 hr (pv 0) .nil))))))))
      (pss_cons (ps_set (i := 1) scFirst.nd rfl (Or.inl rfl) (pe_op op_cat (pv 1) (pe_lst (pa_ec (ec_1 R.e5 hr (pv 0) (ec_1 R.e6 hr (pv 0) (ec_1 R.e7 hr (pv 0) (ec_1 R.e8 hr (pv 0) .nil))))))))
      (pss_cons (ps_set (i := 1) scFirst.nd rfl (Or.inl rfl) (pe_op op_cat (pv 1) (pe_lst (pa_ec (ec_1 R.e9 hr (pv 0) (ec_1 R.e10 hr (pv 0) (ec_1 R.e11 hr (pv 0) (ec_1 R.e12 hr (pv 0) .nil))))))))
      (pss_cons (ps_set (i := 1) scFirst.nd rfl (Or.inl rfl) (pe_op op_cat (pv 1) (pe_lst (pa_ec (ec_1 R.e13 hr (pv 0) (ec_1 R.e14 hr (pv 0) (ec_1 R.e15 hr (pv 0) (ec_1 R.e16 hr (pv 0) .nil))))))))
      (pss_cons (ps_set (i := 1) scFirst.nd rfl (Or.inl rfl) (pe_op op_cat (pv 1) (pe_lst (pa_ec (ec_1 R.e17 hr (pv 0) (ec_1 R.e18 hr (pv 0) (ec_1 R.e19 hr (pv 0) (ec_1 R.e20 hr (pv 0) .nil))))))))
      (pss_one (ps_ret (pv 1)))))))), ?_⟩
    refine seq_set ?_
    refine grow_first (val := fun σ v => σ[0]? = some (some v)) (cs := [C 0, C 1, C 2, C 3, C 4]) (v := v) rfl (by show 5 ≤ 100; decide) fun H1 L1 g1 => ?_
    refine seq_set ?_
    refine grow_more (val := fun σ v => σ[0]? = some (some v)) (ds := [C 5, C 6, C 7, C 8]) (v := v) rfl rfl g1 (by show 5 + 4 ≤ 100; decide) fun H2 L2 g2 => ?_
    refine seq_set ?_
    refine grow_more (val := fun σ v => σ[0]? = some (some v)) (ds := [C 9, C 10, C 11, C 12]) (v := v) rfl rfl g2 (by show 9 + 4 ≤ 100; decide) fun H3 L3 g3 => ?_
    refine seq_set ?_
    refine grow_more (val := fun σ v => σ[0]? = some (some v)) (ds := [C 13, C 14, C 15, C 16]) (v := v) rfl rfl g3 (by show 13 + 4 ≤ 100; decide) fun H4 L4 g4 => ?_
    refine seq_set ?_
    refine grow_more (val := fun σ v => σ[0]? = some (some v)) (ds := [C 17, C 18, C 19, C 20]) (v := v) rfl rfl g4 (by show 17 + 4 ≤ 100; decide) fun H5 L5 ⟨xs, s5, n5, h5, e5⟩ => ?_
    exact ⟨_, rfl, k H5 L5 xs s5 n5 h5 e5⟩
theorem ok_called {f : Addr} {fd : FuncData} (T : Top K mg "_law_called" sCalled ["_law_thing"] f fd) (R : Errs K mg C I) : FnOk P w K mg base CX0 2 f fd ["_law_thing"] (spMany C) := by
  refine T.F.ok scCalled (fun vs H Q E h => ?_) (fun cdv A outer s H vs Q E hr h => ?_)
  · obtain ⟨_, rfl, _⟩ := h
    rfl
  · obtain ⟨v, rfl, k⟩ := h
    refine ⟨_, (pss_cons (ps_set (i := 1) scCalled.nd rfl (Or.inl rfl) (pe_lst (pa_ec (ec_K R.e0 hr (pv 0) (ec_K R.e1 hr (pv 0) (ec_K R.e2 hr (pv 0) .nil))))))
      (pss_cons (ps_set (i := 1) scCalled.nd rfl (Or.inl rfl) (pe_op op_cat (pv 1) (pe_lst (pa_ec (ec_K R.e3 hr (pv 0) (ec_K R.e4 hr (pv 0) (ec_K R.e5 hr (pv 0) .nil)))))))
      (pss_cons (ps_set (i := 1) scCalled.nd rfl (Or.inl rfl) (pe_op op_cat (pv 1) (pe_lst (pa_ec (ec_K R.e6 hr (pv 0) (ec_K R.e7 hr (pv 0) (ec_K R.e8 hr (pv 0) .nil)))))))
      (pss_cons (ps_set (i := 1) scCalled.nd rfl (Or.inl rfl) (pe_op op_cat (pv 1) (pe_lst (pa_ec (ec_K R.e9 hr (pv 0) (ec_K R.e10 hr (pv 0) (ec_K R.e11 hr (pv 0) .nil)))))))
      (pss_cons (ps_set (i := 1) scCalled.nd rfl (Or.inl rfl) (pe_op op_cat (pv 1) (pe_lst (pa_ec (ec_K R.e12 hr (pv 0) (ec_K R.e13 hr (pv 0) (ec_K R.e14 hr (pv 0) .nil)))))))
      (pss_cons (ps_set (i := 1) scCalled.nd rfl (Or.inl rfl) (pe_op op_cat (pv 1) (pe_lst (pa_ec (ec_K R.e15 hr (pv 0) (ec_K R.e16 hr (pv 0) (ec_K R.e17 hr (pv 0) .nil)))))))
      (pss_cons (ps_set (i := 1) scCalled.nd rfl (Or.inl rfl) (pe_op op_cat (pv 1) (pe_lst (pa_ec (ec_K R.e18 hr (pv 0) (ec_K R.e19 hr (pv 0) (ec_K R.e20 hr (pv 0) .nil)))))))
      (pss_one (ps_ret (pv 1)))))))))), ?_⟩
    refine seq_set ?_
    refine grow_first (val := fun σ v => σ[0]? = some (some v)) (cs := [C 0, C 1, C 2]) (v := v) rfl (by show 3 ≤ 100; decide) fun H1 L1 g1 => ?_
    refine seq_set ?_
    refine grow_more (val := fun σ v => σ[0]? = some (some v)) (ds := [C 3, C 4, C 5]) (v := v) rfl rfl g1 (by show 3 + 3 ≤ 100; decide) fun H2 L2 g2 => ?_
    refine seq_set ?_
    refine grow_more (val := fun σ v => σ[0]? = some (some v)) (ds := [C 6, C 7, C 8]) (v := v) rfl rfl g2 (by show 6 + 3 ≤ 100; decide) fun H3 L3 g3 => ?_
    refine seq_set ?_
    refine grow_more (val := fun σ v => σ[0]? = some (some v)) (ds := [C 9, C 10, C 11]) (v := v) rfl rfl g3 (by show 9 + 3 ≤ 100; decide) fun H4 L4 g4 => ?_
    refine seq_set ?_
    refine grow_more (val := fun σ v => σ[0]? = some (some v)) (ds := [C 12, C 13, C 14]) (v := v) rfl rfl g4 (by show 12 + 3 ≤ 100; decide) fun H5 L5 g5 => ?_
    refine seq_set ?_
    refine grow_more (val := fun σ v => σ[0]? = some (some v)) (ds := [C 15, C 16, C 17]) (v := v) rfl rfl g5 (by show 15 + 3 ≤ 100; decide) fun H6 L6 g6 => ?_
    refine seq_set ?_
    refine grow_more (val := fun σ v => σ[0]? = some (some v)) (ds := [C 18, C 19, C 20]) (v := v) rfl rfl g6 (by show 18 + 3 ≤ 100; decide) fun H7 L7 ⟨xs, s5, n5, h5, e5⟩ => ?_
    exact ⟨_, rfl, k H7 L7 xs s5 n5 h5 e5⟩
theorem ok_bare {f : Addr} {fd : FuncData} (T : Top K mg "_law_bare" sBare [] f fd) (R : Errs K mg C I) : FnOk P w K mg base CX0 2 f fd [] (spBare C) := by
  refine T.F.ok scBare (fun vs H Q E h => ?_) (fun cdv A outer s H vs Q E hr h => ?_)
  · obtain ⟨rfl, _⟩ := h
    rfl
  · obtain ⟨rfl, k⟩ := h
    refine ⟨_, (pss_cons (ps_set (i := 0) scBare.nd rfl (Or.inl rfl) (pe_lst (pa_ec (ec_0 R.e0 hr (ec_0 R.e1 hr (ec_0 R.e2 hr (ec_0 R.e3 hr (ec_0 R.e4 hr (ec_0 R.e5 hr .nil)))))))))
      (pss_cons (ps_set (i := 0) scBare.nd rfl (Or.inl rfl) (pe_op op_cat (pv 0) (pe_lst (pa_ec (ec_0 R.e6 hr (ec_0 R.e7 hr (ec_0 R.e8 hr (ec_0 R.e9 hr (ec_0 R.e10 hr .nil)))))))))
      (pss_cons (ps_set (i := 0) scBare.nd rfl (Or.inl rfl) (pe_op op_cat (pv 0) (pe_lst (pa_ec (ec_0 R.e11 hr (ec_0 R.e12 hr (ec_0 R.e13 hr (ec_0 R.e14 hr (ec_0 R.e15 hr .nil)))))))))
      (pss_cons (ps_set (i := 0) scBare.nd rfl (Or.inl rfl) (pe_op op_cat (pv 0) (pe_lst (pa_ec (ec_0 R.e16 hr (ec_0 R.e17 hr (ec_0 R.e18 hr (ec_0 R.e19 hr (ec_0 R.e20 hr .nil)))))))))
      (pss_one (ps_ret (pv 0))))))), ?_⟩
    refine seq_set ?_
    refine grow_first (val := fun _ v => v = .non) (cs := [C 0, C 1, C 2, C 3, C 4, C 5]) (v := .non) rfl (by show 6 ≤ 100; decide) fun H1 L1 g1 => ?_
    refine seq_set ?_
    refine grow_more (val := fun _ v => v = .non) (ds := [C 6, C 7, C 8, C 9, C 10]) (v := .non) rfl rfl g1 (by show 6 + 5 ≤ 100; decide) fun H2 L2 g2 => ?_
    refine seq_set ?_
    refine grow_more (val := fun _ v => v = .non) (ds := [C 11, C 12, C 13, C 14, C 15]) (v := .non) rfl rfl g2 (by show 11 + 5 ≤ 100; decide) fun H3 L3 g3 => ?_
    refine seq_set ?_
    refine grow_more (val := fun _ v => v = .non) (ds := [C 16, C 17, C 18, C 19, C 20]) (v := .non) rfl rfl g3 (by show 16 + 5 ≤ 100; decide) fun H4 L4 ⟨xs, s5, n5, h5, e5⟩ => ?_
    exact ⟨_, rfl, k H4 L4 xs s5 n5 h5 e5⟩
end
end K1

namespace K1
open PySem PySem.Spec PyProof.Rows L2
open PySem.W (Frag)
/-! ### which class an error is of -/
/-- isinstance(x, D), one behind another, of an error of the class at E -/
inductive IC (X : Cx) (E : Addr) : List Expr → List Bool → Prop
  | nil : IC X E [] []
  | cons {e : Expr} {es : List Expr} {b : Bool} {bs : List Bool} : PE X e (fun σ H Q => (∃ a, σ[0]? = some (some (.ref a)) ∧ IsErr H E a) ∧ Q (.bl b) H) → starEach (e :: es) X.env = (false, eval e X.env) :: starEach es X.env → IC X E es bs → IC X E (e :: es) (b :: bs)
theorem pa_ic {X : Cx} {E : Addr} : ∀ {es : List Expr} {bs : List Bool}, IC X E es bs → PA X es (fun σ H Q => (∃ a, σ[0]? = some (some (.ref a)) ∧ IsErr H E a) ∧ Q (bs.map V.bl) H)
  | _, _, .nil => ⟨fun pos pins s σ H Q I h => pa_nil.run pos pins s σ H Q I h.2⟩
  | _, _, .cons he hs t => ⟨fun pos pins s σ H Q I h => (pa_cons he (pa_ic t) hs).run pos pins s σ H Q I ⟨h.1, h.1, h.2⟩⟩
section
variable {X : Cx} {nm x : Str} {E D : Addr} {p pos q r : Pos} {b : Bool}
theorem ic_1 {es : List Expr} {bs : List Bool} (TE : ExcC X.K E) (B : Blt X.mg) (gD : X.mg nm = some (.ref D)) (hk : PySem.W.kitOne X.K (.ref E) (.ref D) = some b) (hv : PE X (.Name x q) (tVar 0)) (t : IC X E es bs) (hi : Gl X "isinstance" := by rfl) (hg : Gl X nm := by rfl)
    (hs : starEach (.Call (.Name "isinstance" p) [.Name x q, .Name nm r] [] pos :: es) X.env = (false, eval (.Call (.Name "isinstance" p) [.Name x q, .Name nm r] [] pos) X.env) :: starEach es X.env := by rfl)
    (ha : PA X [.Name x q, .Name nm r] (tCons (tVar 0) (tCons (tC (.ref D)) tNil))) :
    IC X E (.Call (.Name "isinstance" p) [.Name x q, .Name nm r] [] pos :: es) (b :: bs) := by
  refine .cons (PE.imp (pe_callB call_isErr hi B.isi (by decide +kernel) ha) fun σ H Q h => ?_) hs t
  obtain ⟨⟨a, e1, e2⟩, k⟩ := h
  exact ⟨_, e1, a, E, .ref D, .ref D, b, rfl, e2, TE, .own D, hk, k⟩
end
section
variable {P : Program} {w : World} {K : Frag} {mg : Str → Option Value} {base : Heap} {C I : Nat → Addr}
/-- behind the heap H: at L the bools bs -/
def BoolsAt (H Hc : Hp) (L : Addr) (bs : List Bool) : Prop := Same H Hc ∧ H L = none ∧ Hc L = some (.lst (bs.map V.bl))
theorem bools_first {E : Addr} {σ : L2.St} {H : Hp} {bs : List Bool} {Q : VK} (hE : ∃ a, σ[0]? = some (some (.ref a)) ∧ IsErr H E a) (few : bs.length ≤ 100) (k : ∀ H' p, BoolsAt H H' p bs → Q (.ref p) H') :
    tLst (fun σ H Q => (∃ a, σ[0]? = some (some (.ref a)) ∧ IsErr H E a) ∧ Q (bs.map V.bl) H) σ H Q :=
  ⟨hE, few_line (by rw [List.length_map]; exact few), fun L nL => k _ L ⟨same_upd nL, nL, upd_same⟩⟩
theorem bools_more {E : Addr} {σ : L2.St} {i : Nat} {H Hc : Hp} {L : Addr} {bs ds : List Bool} {Q : VK} (hσ : σ[i]? = some (some (.ref L))) (hE : ∃ a, σ[0]? = some (some (.ref a)) ∧ IsErr H E a) (g : BoolsAt H Hc L bs) (few : bs.length + ds.length ≤ 100)
    (k : ∀ H' p, BoolsAt H H' p (bs ++ ds) → Q (.ref p) H') :
    tOp rCat (tVar i) (tLst fun σ H Q => (∃ a, σ[0]? = some (some (.ref a)) ∧ IsErr H E a) ∧ Q (ds.map V.bl) H) σ Hc Q := by
  obtain ⟨s0, nL, hL⟩ := g
  obtain ⟨a, e1, e2⟩ := hE
  refine ⟨_, hσ, ⟨a, e1, e2.same s0⟩, few_line (by rw [List.length_map]; omega), fun M nM => ?_⟩
  have nLM : L ≠ M := ne_of_none hL nM
  refine ⟨L, M, _, _, rfl, rfl, by rw [upd_ne nLM]; exact hL, upd_same, few_line (by rw [List.length_map, List.length_map]; omega), fun p np => k _ p ⟨(s0.trans (same_upd nM)).trans (same_upd np), (s0.trans (same_upd nM)).free np, ?_⟩⟩
  rw [upd_same, List.map_append]
def spCode (K : Frag) (C : Nat → Addr) : Sp := fun vs H Q _ => ∃ (a E : Addr) (bs : Nat → Bool), vs = [.ref a] ∧ IsErr H E a ∧ ExcC K E ∧ (∀ j, j < 23 → PySem.W.kitOne K (.ref E) (.ref (C j)) = some (bs j)) ∧
  ∀ (H' : Hp) (L : Addr), Same H H' → H L = none → H' L = some (.lst (((List.range 23).filter bs).map fun j : Nat => V.int j)) → Q (.ref L) H'
theorem ok_code {f : Addr} {fd : FuncData} (T : Top K mg "_law_code" sCode ["_law_error"] f fd) (R : Errs K mg C I) (B : Blt mg) : FnOk P w K mg base CX0 1 f fd ["_law_error"] (spCode K C) := by
  refine T.F.ok scCode (fun vs H Q E h => ?_) (fun cdv A outer s H vs Q E₀ hr h => ?_)
  · obtain ⟨_, _, _, rfl, _⟩ := h
    rfl
  · obtain ⟨a, E, bs, rfl, hI, TE, hK, k⟩ := h
    refine ⟨_, (pss_cons (ps_set (i := 1) scCode.nd rfl (Or.inr rfl) (pe_lst (pa_ic (E := E) (bs := [bs 0, bs 1, bs 2]) (ic_1 TE B R.e0.gC (hK 0 (by decide)) (pv 0) (ic_1 TE B R.e1.gC (hK 1 (by decide)) (pv 0) (ic_1 TE B R.e2.gC (hK 2 (by decide)) (pv 0) .nil (ha := pa_cons (pv 0) (pa_cons (pe_glob rfl R.e2.gC rfl) pa_nil))) (ha := pa_cons (pv 0) (pa_cons (pe_glob rfl R.e1.gC rfl) pa_nil))) (ha := pa_cons (pv 0) (pa_cons (pe_glob rfl R.e0.gC rfl) pa_nil))))))
      (pss_cons (ps_set (i := 1) scCode.nd rfl (Or.inr rfl) (pe_op op_cat (pv 1) (pe_lst (pa_ic (E := E) (bs := [bs 3, bs 4]) (ic_1 TE B R.e3.gC (hK 3 (by decide)) (pv 0) (ic_1 TE B R.e4.gC (hK 4 (by decide)) (pv 0) .nil (ha := pa_cons (pv 0) (pa_cons (pe_glob rfl R.e4.gC rfl) pa_nil))) (ha := pa_cons (pv 0) (pa_cons (pe_glob rfl R.e3.gC rfl) pa_nil)))))))
      (pss_cons (ps_set (i := 1) scCode.nd rfl (Or.inr rfl) (pe_op op_cat (pv 1) (pe_lst (pa_ic (E := E) (bs := [bs 5, bs 6]) (ic_1 TE B R.e5.gC (hK 5 (by decide)) (pv 0) (ic_1 TE B R.e6.gC (hK 6 (by decide)) (pv 0) .nil (ha := pa_cons (pv 0) (pa_cons (pe_glob rfl R.e6.gC rfl) pa_nil))) (ha := pa_cons (pv 0) (pa_cons (pe_glob rfl R.e5.gC rfl) pa_nil)))))))
      (pss_cons (ps_set (i := 1) scCode.nd rfl (Or.inr rfl) (pe_op op_cat (pv 1) (pe_lst (pa_ic (E := E) (bs := [bs 7, bs 8]) (ic_1 TE B R.e7.gC (hK 7 (by decide)) (pv 0) (ic_1 TE B R.e8.gC (hK 8 (by decide)) (pv 0) .nil (ha := pa_cons (pv 0) (pa_cons (pe_glob rfl R.e8.gC rfl) pa_nil))) (ha := pa_cons (pv 0) (pa_cons (pe_glob rfl R.e7.gC rfl) pa_nil)))))))
      (pss_cons (ps_set (i := 1) scCode.nd rfl (Or.inr rfl) (pe_op op_cat (pv 1) (pe_lst (pa_ic (E := E) (bs := [bs 9, bs 10]) (ic_1 TE B R.e9.gC (hK 9 (by decide)) (pv 0) (ic_1 TE B R.e10.gC (hK 10 (by decide)) (pv 0) .nil (ha := pa_cons (pv 0) (pa_cons (pe_glob rfl R.e10.gC rfl) pa_nil))) (ha := pa_cons (pv 0) (pa_cons (pe_glob rfl R.e9.gC rfl) pa_nil)))))))
      (pss_cons (ps_set (i := 1) scCode.nd rfl (Or.inr rfl) (pe_op op_cat (pv 1) (pe_lst (pa_ic (E := E) (bs := [bs 11, bs 12]) (ic_1 TE B R.e11.gC (hK 11 (by decide)) (pv 0) (ic_1 TE B R.e12.gC (hK 12 (by decide)) (pv 0) .nil (ha := pa_cons (pv 0) (pa_cons (pe_glob rfl R.e12.gC rfl) pa_nil))) (ha := pa_cons (pv 0) (pa_cons (pe_glob rfl R.e11.gC rfl) pa_nil)))))))
      (pss_cons (ps_set (i := 1) scCode.nd rfl (Or.inr rfl) (pe_op op_cat (pv 1) (pe_lst (pa_ic (E := E) (bs := [bs 13, bs 14]) (ic_1 TE B R.e13.gC (hK 13 (by decide)) (pv 0) (ic_1 TE B R.e14.gC (hK 14 (by decide)) (pv 0) .nil (ha := pa_cons (pv 0) (pa_cons (pe_glob rfl R.e14.gC rfl) pa_nil))) (ha := pa_cons (pv 0) (pa_cons (pe_glob rfl R.e13.gC rfl) pa_nil)))))))
      (pss_cons (ps_set (i := 1) scCode.nd rfl (Or.inr rfl) (pe_op op_cat (pv 1) (pe_lst (pa_ic (E := E) (bs := [bs 15, bs 16]) (ic_1 TE B R.e15.gC (hK 15 (by decide)) (pv 0) (ic_1 TE B R.e16.gC (hK 16 (by decide)) (pv 0) .nil (ha := pa_cons (pv 0) (pa_cons (pe_glob rfl R.e16.gC rfl) pa_nil))) (ha := pa_cons (pv 0) (pa_cons (pe_glob rfl R.e15.gC rfl) pa_nil)))))))
      (pss_cons (ps_set (i := 1) scCode.nd rfl (Or.inr rfl) (pe_op op_cat (pv 1) (pe_lst (pa_ic (E := E) (bs := [bs 17, bs 18]) (ic_1 TE B R.e17.gC (hK 17 (by decide)) (pv 0) (ic_1 TE B R.e18.gC (hK 18 (by decide)) (pv 0) .nil (ha := pa_cons (pv 0) (pa_cons (pe_glob rfl R.e18.gC rfl) pa_nil))) (ha := pa_cons (pv 0) (pa_cons (pe_glob rfl R.e17.gC rfl) pa_nil)))))))
      (pss_cons (ps_set (i := 1) scCode.nd rfl (Or.inr rfl) (pe_op op_cat (pv 1) (pe_lst (pa_ic (E := E) (bs := [bs 19, bs 20]) (ic_1 TE B R.e19.gC (hK 19 (by decide)) (pv 0) (ic_1 TE B R.e20.gC (hK 20 (by decide)) (pv 0) .nil (ha := pa_cons (pv 0) (pa_cons (pe_glob rfl R.e20.gC rfl) pa_nil))) (ha := pa_cons (pv 0) (pa_cons (pe_glob rfl R.e19.gC rfl) pa_nil)))))))
      (pss_cons (ps_set (i := 1) scCode.nd rfl (Or.inr rfl) (pe_op op_cat (pv 1) (pe_lst (pa_ic (E := E) (bs := [bs 21, bs 22]) (ic_1 TE B R.g21 (hK 21 (by decide)) (pv 0) (ic_1 TE B R.g22 (hK 22 (by decide)) (pv 0) .nil (ha := pa_cons (pv 0) (pa_cons (pe_glob rfl R.g22 rfl) pa_nil))) (ha := pa_cons (pv 0) (pa_cons (pe_glob rfl R.g21 rfl) pa_nil)))))))
      (pss_one (ps_ret (pe_lc (own := [("_law_at", 2)]) (g := gName 2) rfl scCode.nd (pi_range1 (by rfl) B.range (pa_cons (pe_callB call_len_seq (by rfl) B.len PySem.boot_len (pa_cons (pv 1) pa_nil)) pa_nil))
        (blkOk_by (N := ["_law_error", "_law_found", "_law_at"]) (sc := defScope sCode) (by decide +kernel)) (fun _ _ _ _ _ => pg_name (i := 2) scCode.nd rfl (Or.inl rfl)) (fun _ _ _ _ _ => pts_one (pt_val (pe_ix (show IxR _ (rIxL K) from ix_list) (pv 1) (pv 2) (fun _ _ => rfl)))) (fun _ _ _ _ _ => pv 2))))))))))))))), ?_⟩
    refine seq_set ?_
    refine bools_first (E := E) (bs := [bs 0, bs 1, bs 2]) ⟨a, rfl, hI⟩ (by show 3 ≤ 100; decide) fun H1 L1 g1 => ?_
    refine seq_set ?_
    refine bools_more (E := E) (ds := [bs 3, bs 4]) rfl ⟨a, rfl, hI⟩ g1 (by show 3 + 2 ≤ 100; decide) fun H2 L2 g2 => ?_
    refine seq_set ?_
    refine bools_more (E := E) (ds := [bs 5, bs 6]) rfl ⟨a, rfl, hI⟩ g2 (by show 5 + 2 ≤ 100; decide) fun H3 L3 g3 => ?_
    refine seq_set ?_
    refine bools_more (E := E) (ds := [bs 7, bs 8]) rfl ⟨a, rfl, hI⟩ g3 (by show 7 + 2 ≤ 100; decide) fun H4 L4 g4 => ?_
    refine seq_set ?_
    refine bools_more (E := E) (ds := [bs 9, bs 10]) rfl ⟨a, rfl, hI⟩ g4 (by show 9 + 2 ≤ 100; decide) fun H5 L5 g5 => ?_
    refine seq_set ?_
    refine bools_more (E := E) (ds := [bs 11, bs 12]) rfl ⟨a, rfl, hI⟩ g5 (by show 11 + 2 ≤ 100; decide) fun H6 L6 g6 => ?_
    refine seq_set ?_
    refine bools_more (E := E) (ds := [bs 13, bs 14]) rfl ⟨a, rfl, hI⟩ g6 (by show 13 + 2 ≤ 100; decide) fun H7 L7 g7 => ?_
    refine seq_set ?_
    refine bools_more (E := E) (ds := [bs 15, bs 16]) rfl ⟨a, rfl, hI⟩ g7 (by show 15 + 2 ≤ 100; decide) fun H8 L8 g8 => ?_
    refine seq_set ?_
    refine bools_more (E := E) (ds := [bs 17, bs 18]) rfl ⟨a, rfl, hI⟩ g8 (by show 17 + 2 ≤ 100; decide) fun H9 L9 g9 => ?_
    refine seq_set ?_
    refine bools_more (E := E) (ds := [bs 19, bs 20]) rfl ⟨a, rfl, hI⟩ g9 (by show 19 + 2 ≤ 100; decide) fun H10 L10 g10 => ?_
    refine seq_set ?_
    refine bools_more (E := E) (ds := [bs 21, bs 22]) rfl ⟨a, rfl, hI⟩ g10 (by show 21 + 2 ≤ 100; decide) fun H11 L11 g11 => ?_
    obtain ⟨s1, n1, h1⟩ := g11
    have eb : [bs 0, bs 1, bs 2, bs 3, bs 4, bs 5, bs 6, bs 7, bs 8, bs 9, bs 10, bs 11, bs 12, bs 13, bs 14, bs 15, bs 16, bs 17, bs 18, bs 19, bs 20, bs 21, bs 22] = (List.range 23).map bs := rfl
    refine ⟨_, rfl, L11, _, rfl, .inl (SqL.of h1), _, rfl, (by show -(2 ^ 62) ≤ ((23 : Nat) : Int); decide), (by show ((23 : Nat) : Int) < 2 ^ 62; decide), fun D hD => ?_⟩
    refine lc_range (lo := 0) (n := 23) (fun i H' => Same H11 H' ∧ H' D = some (.lst (((List.range i).filter bs).map fun j : Nat => V.int j)))
      ⟨same_upd hD, upd_same⟩ ?_ ?_
    · rintro i H' hi ⟨s2, hD'⟩
      refine ⟨rfl, _, rfl, _, rfl, L11, _, _, V.bl (bs i), rfl, rfl, SqL.of (s2 _ _ h1), ?_, bs i, rfl, ?_⟩
      · rw [show (0 : Int) + ((i : Nat) : Int) = ((i : Nat) : Int) by omega]
        refine atI_nat ?_
        show ((([bs 0, bs 1, bs 2, bs 3, bs 4, bs 5, bs 6, bs 7, bs 8, bs 9, bs 10, bs 11, bs 12, bs 13, bs 14, bs 15, bs 16, bs 17, bs 18, bs 19, bs 20, bs 21, bs 22]).map V.bl)[i]? : Option V) = _
        rw [eb, List.map_map, List.getElem?_map, List.getElem?_range hi]
        rfl
      · have nDL : D ≠ L11 := (ne_of_none h1 hD).symm
        cases e : bs i with
        | true =>
          refine iteT ⟨_, rfl, _, hD', ?_, fun b o q => ?_, ?_⟩
          · rw [List.length_map]
            refine Nat.lt_of_le_of_lt (List.length_filter_le _ _) ?_
            rw [List.length_range, sizeLine_eq]
            omega
          · rw [upd_ne (ne_of_none q hD)]
            exact s2 b o q
          · rw [upd_same, List.range_succ, List.filter_append, List.map_append]
            have e2 : [i].filter bs = [i] := by simp [e]
            rw [e2, show (0 : Int) + ((i : Nat) : Int) = ((i : Nat) : Int) by omega]
            rfl
        | false =>
          refine iteF ⟨s2, ?_⟩
          rw [List.range_succ, List.filter_append]
          have e2 : [i].filter bs = [] := by simp [e]
          rw [e2, List.append_nil]
          exact hD'
    · rintro H' ⟨s2, hD'⟩
      exact k H' D (s1.trans s2) (s1.free hD) hD'
end
end K1

namespace K1
open PySem PySem.Spec PyProof.Rows L2
open PySem.W (Frag)
section
variable {P : Program} {w : World} {K : Frag} {mg : Str → Option Value} {base : Heap} {C I : Nat → Addr} {PE_ : Addr}
def spIsError (K : Frag) (B0 : Addr) : Sp := fun vs H Q _ => ∃ (a E : Addr), vs = [.ref a] ∧ IsErr H E a ∧ ExcC K E ∧ PySem.W.kitOne K (.ref E) (.ref B0) = some true ∧ PySem.W.kitOne K (.ref E) (.type "ValueError") = some true ∧ Q (.bl true) H
theorem ok_isError {f B0 : Addr} {fd : FuncData} (T : Top K mg "_law_is_error" sIsError ["_law_error"] f fd) (g0 : mg "PhraseError" = some (.ref B0)) (B : Blt mg) : FnOk P w K mg base CX0 1 f fd ["_law_error"] (spIsError K B0) := by
  refine T.F.ok scIsError (fun vs H Q E h => ?_) (fun cdv A outer s H vs Q E₀ hr h => ?_)
  · obtain ⟨_, _, rfl, _⟩ := h
    rfl
  · obtain ⟨a, E, rfl, hI, TE, k1, k2, k⟩ := h
    refine ⟨_, pss_one (ps_ret (pe_and (pe_callB call_isErr (by rfl) B.isi (by decide +kernel) (pa_cons (pv 0) (pa_cons (pe_glob (v := .ref B0) rfl g0 rfl) pa_nil))) (pe_one (pe_callB call_isErr (by rfl) B.isi (by decide +kernel) (pa_cons (pv 0) (pa_cons (pe_bltn (v := .ty "ValueError") (by rfl) B.ve (by decide +kernel) rfl) pa_nil)))))), ?_⟩
    exact ⟨_, rfl, a, E, _, _, true, rfl, hI, TE, .own B0, k1, true, rfl, iteT ⟨_, rfl, a, E, _, _, true, rfl, hI, TE, .ty "ValueError", k2, k⟩⟩
/-- facts of the classes of errors: which of them is a kind of which -/
structure Kinds (K : Frag) (C : Nat → Addr) (B0 : Addr) : Prop where
  ex : ∀ i, i < 23 → ExcC K (C i)
  kit : ∀ i j, i < 23 → j < 23 → PySem.W.kitOne K (.ref (C i)) (.ref (C j)) = some (decide (i = j))
  ph : ∀ i, i < 23 → PySem.W.kitOne K (.ref (C i)) (.ref B0) = some true
  ve : ∀ i, i < 23 → PySem.W.kitOne K (.ref (C i)) (.type "ValueError") = some true
  noN : ∀ i, i < 21 → PySem.W.findIn K (.ref (C i)) "value" = some none
  xf : ∀ i, i < 21 → XfC K (C i)
  ex0 : ExcC K B0
  kit0 : ∀ j, j < 23 → PySem.W.kitOne K (.ref B0) (.ref (C j)) = some false
  ph0 : PySem.W.kitOne K (.ref B0) (.ref B0) = some true
  ve0 : PySem.W.kitOne K (.ref B0) (.type "ValueError") = some true
theorem only_i {i : Nat} (hi : i < 23) : (List.range 23).filter (fun j => decide (i = j)) = [i] := by
  have : ∀ i, i < 23 → (List.range 23).filter (fun j => decide (i = j)) = [i] := by decide
  exact this i hi
/-- a datum that may be shown -/
structure Shows (H : Hp) (v : V) (d : PyData) : Prop where
  rp : Rp H v d
  ok : d.showable = true
  len : d.shown.length ≤ sizeLine
  dep : d.depth ≤ 60
def spRight (C : Nat → Addr) : Sp := fun vs H Q _ => ∃ (L : Addr) (xs : List V) (v : V) (d : PyData), vs = [.ref L, .str d.shown] ∧ H L = some (.lst xs) ∧ ErrsAt H (csOf C) xs v ∧ Shows H v d ∧ ∀ H', Same H H' → Q (.bl true) H'
theorem errs_at {H : Hp} {C : Nat → Addr} {xs : List V} {v : V} (h : ErrsAt H (csOf C) xs v) {i : Nat} {x : V} (hx : xs[i]? = some x) : i < 21 ∧ ∃ e, x = .ref e ∧ ErrAt H (C i) e v := by
  have hl : xs.length = 21 := by
    rw [← h.len]
    rfl
  have hi : i < 21 := by
    have := (List.getElem?_eq_some_iff.mp hx).1
    omega
  have get : ∀ {l : List Addr} {r : List V} {i : Nat} {c : Addr} {x : V}, Paired (fun C x => ∃ e, x = V.ref e ∧ ErrAt H C e v) l r → l[i]? = some c → r[i]? = some x → ∃ e, x = V.ref e ∧ ErrAt H c e v := by
    intro l r i c x p
    induction p generalizing i with
    | nil => intro h1; simp at h1
    | cons q t ih =>
      cases i with
      | zero =>
        intro h1 h2
        simp at h1 h2
        subst h1 h2
        exact q
      | succ i =>
        intro h1 h2
        exact ih (by simpa using h1) (by simpa using h2)
  refine ⟨hi, get h ?_ hx⟩
  unfold csOf
  rw [List.getElem?_map, List.getElem?_range hi]
  rfl
mutual
theorem Rp.same {H H' : Hp} (k : Same H H') : ∀ {v : V} {d : PyData}, Rp H v d → Rp H' v d
  | _, _, .non => .non
  | _, _, .bl b => .bl b
  | _, _, .int i => .int i
  | _, _, .str x => .str x
  | _, _, .lst h n r => .lst (k _ _ h) n (RpAll.same k r)
  | _, _, .tup h r => .tup (k _ _ h) (RpAll.same k r)
  | _, _, .dic h r => .dic (k _ _ h) (RpAll.same k r)
theorem RpAll.same {H H' : Hp} (k : Same H H') : ∀ {vs : List V} {ds : List PyData}, RpAll H vs ds → RpAll H' vs ds
  | _, _, .nil => .nil
  | _, _, .cons h r => .cons (Rp.same k h) (RpAll.same k r)
end
theorem Shows.same {H H' : Hp} {v : V} {d : PyData} (k : Same H H') (h : Shows H v d) : Shows H' v d := ⟨h.rp.same k, h.ok, h.len, h.dep⟩
/-- lists of one number each, the numbers from 0 on; none of them stands at D -/
def Rows (H : Hp) (D : Addr) (n : Nat) (rs : List V) : Prop := Paired (fun (i : Nat) (x : V) => ∃ a, x = V.ref a ∧ a ≠ D ∧ H a = some (.lst [.int i])) (List.range n) rs
theorem Rows.len {H : Hp} {D : Addr} {n : Nat} {rs : List V} (h : Rows H D n rs) : rs.length = n := by
  rw [← Paired.length h, List.length_range]
theorem Rows.more {H H' : Hp} {D : Addr} {n : Nat} {rs : List V} {a : Addr} (h : Rows H D n rs) (k : ∀ b o, H b = some o → b ≠ D → H' b = some o) (ha : a ≠ D) (h' : H' a = some (.lst [.int n])) : Rows H' D (n + 1) (rs ++ [.ref a]) := by
  unfold Rows
  rw [List.range_succ]
  exact Paired.app (Paired.impl h fun i x ⟨b, e1, e2, e3⟩ => ⟨b, e1, e2, k _ _ e3 e2⟩) (.cons ⟨a, rfl, ha, h'⟩ .nil)
def dRows : PyData := .list ((List.range 21).map fun i : Nat => .list [.int i])
theorem rows_dp {K : Frag} {H : Hp} {D : Addr} : ∀ {l : List Nat} {rs : List V}, Paired (fun (i : Nat) (x : V) => ∃ a, x = V.ref a ∧ a ≠ D ∧ H a = some (.lst [.int i])) l rs → DpAll K H rs (l.map fun i : Nat => PyData.list [.int i])
  | _, _, .nil => .nil
  | _, _, .cons ⟨a, e, _, h⟩ t => by
    rw [e]
    exact .cons (.lst (SqL.of h) (.cons (.int _) .nil)) (rows_dp t)
theorem ok_right {f fc fe B0 : Addr} {fd fdc fde : FuncData} (T : Top K mg "_law_right" sRight ["_law_some", "_law_noted"] f fd) (TC : Top K mg "_law_code" sCode ["_law_error"] fc fdc) (TE : Top K mg "_law_is_error" sIsError ["_law_error"] fe fde)
    (R : Errs K mg C I) (D : Kinds K C B0) (g0 : mg "PhraseError" = some (.ref B0)) (B : Blt mg) : FnG P w K mg base 2 f fd ["_law_some", "_law_noted"] (spRight C) := by
  have GC : FnOk P w K mg base CX0 1 fc fdc ["_law_error"] (spCode K C) := ok_code TC R B
  have GE : FnOk P w K mg base CX0 1 fe fde ["_law_error"] (spIsError K B0) := ok_isError TE g0 B
  refine gn_of T.F scRight (fun vs H Q E h => ?_) (fun cdv A outer s H vs Q hG hr h => ?_)
  · obtain ⟨_, _, _, _, rfl, _⟩ := h
    rfl
  · obtain ⟨L, xs, v, d, rfl, hL, hE, hd, k⟩ := h
    refine ⟨_, (pss_cons (ps_if (pt_cmpR (op_neD hr.units)
        (pe_lc (own := [("_law_error", 2)]) (g := gName 2) (tt := tYes) rfl scRight.nd (pi_list (pv 0)) (blkOk_by (N := ["_law_some", "_law_noted", "_law_error", "_law_at"]) (sc := defScope sRight) (by decide +kernel)) (fun _ _ _ _ _ => pg_name (i := 2) scRight.nd rfl (Or.inl rfl)) (fun _ _ _ _ _ => pts_nil)
          (fun _ _ _ _ _ => (pe_call GC hr rfl TC.g TC.F.kp TC.b .nil pass0 (pa_cons (pv 2) pa_nil))))
        (pe_lc (own := [("_law_at", 3)]) (g := gName 3) (tt := tYes) rfl scRight.nd (pi_range1 (by rfl) B.range (pa_cons pe_int pa_nil)) (blkOk_by (N := ["_law_some", "_law_noted", "_law_error", "_law_at"]) (sc := defScope sRight) (by decide +kernel)) (fun _ _ _ _ _ => pg_name (i := 3) scRight.nd rfl (Or.inl rfl)) (fun _ _ _ _ _ => pts_nil)
          (fun _ _ _ _ _ => pe_lst (pa_cons (pv 3) pa_nil))) (nomark _)) (pss_one (ps_ret pe_bl)) pss_nil)
      (pss_one (ps_ret (pe_cmpR (op_eqD hr.units)
        (pe_lc (own := [("_law_error", 2)]) (g := gName 2) rfl scRight.nd (pi_list (pv 0)) (blkOk_by (N := ["_law_some", "_law_noted", "_law_error", "_law_at"]) (sc := defScope sRight) (by decide +kernel)) (fun _ _ _ _ _ => pg_name (i := 2) scRight.nd rfl (Or.inl rfl))
          (fun _ _ _ _ _ => pts_one (PW.pt (pw_or (pt_not (pt_val (pe_call GE hr rfl TE.g TE.F.kp TE.b .nil pass0 (pa_cons (pv 2) pa_nil)))) (pw_or1 (pt_cmpR op_ne (pe_callB (call_reprD hG hr) (by rfl) B.repr (by decide +kernel) (pa_cons (show PE _ _ (tVal K (tVar 2)) from pe_val (pv 2)) pa_nil)) (pv 1) (nomark _))))))
          (fun _ _ _ _ _ => pv 2))
        (pe_lst pa_nil) (nomark _))))), ?_⟩
    have fit : ∀ {n : Nat}, n ≤ 21 → n < sizeLine := fun {n} h => by
      rw [sizeLine_eq]
      omega
    have hl : xs.length = 21 := by
      rw [← hE.len]
      rfl
    -- the classes of all errors
    refine ⟨_, rfl, L, rfl, ⟨_, SqL.of hL⟩, fun D1 n1 => lc_list (K := K) (a := L) (xs := xs) (fun i H' => Same H H' ∧ ∃ rs, H' D1 = some (.lst rs) ∧ Rows H' D1 i rs)
      ⟨same_upd n1, [], upd_same, .nil⟩ (fun i H' _ ⟨s1, _⟩ => SqL.of (s1 _ _ hL)) ?_ ?_⟩
    · rintro i x H' hx ⟨s1, rs, hD, hR⟩
      obtain ⟨hi, e, rfl, he⟩ := errs_at hE hx
      have hi' : i < 23 := by omega
      refine ⟨rfl, _, rfl, e, C i, fun j => decide (i = j), rfl, (he.same s1).is, D.ex i hi', fun j hj => D.kit i j hi' hj, fun H2 L2 s2 nL2 h2 => ⟨rs, s2 _ _ hD, ?_, fun b o q => ?_, _, upd_same, ?_⟩⟩
      · rw [hR.len]
        exact fit (by omega)
      · rw [upd_ne (ne_of_none q n1)]
        exact s2 _ _ (s1 _ _ q)
      · rw [only_i hi'] at h2
        have nLD : L2 ≠ D1 := (ne_of_none hD nL2).symm
        refine hR.more (fun b o q n => ?_) nLD (by rw [upd_ne nLD]; exact h2)
        rw [upd_ne n]
        exact s2 _ _ q
    rintro H1 ⟨s1, rs, hD1, hR1⟩
    rw [hl] at hR1
    -- the numbers that are due
    refine ⟨21, rfl, by decide, by decide, fun D2 n2 => lc_range (lo := 0) (n := 21) (fun i H' => Same H1 H' ∧ ∃ ts, H' D2 = some (.lst ts) ∧ Rows H' D2 i ts) ⟨same_upd n2, [], upd_same, .nil⟩ ?_ ?_⟩
    · rintro i H' hi ⟨s2, ts, hD, hT⟩
      refine ⟨rfl, _, rfl, few_line (by show 1 ≤ 100; decide), fun p np => ⟨ts, ?_, ?_, fun b o q => ?_, _, upd_same, ?_⟩⟩
      · rw [upd_ne (ne_of_none hD np)]
        exact hD
      · rw [hT.len]
        exact fit (by omega)
      · rw [upd_ne (ne_of_none q n2), upd_ne (ne_of_none (s2 _ _ q) np)]
        exact s2 _ _ q
      · have npD : p ≠ D2 := (ne_of_none hD np).symm
        refine hT.more (fun b o q n => ?_) npD ?_
        · rw [upd_ne n, upd_ne (ne_of_none q np)]
          exact q
        · rw [upd_ne npD, upd_same, show (0 : Int) + ((i : Nat) : Int) = ((i : Nat) : Int) by omega]
    rintro H2 ⟨s2, ts, hD2, hT⟩
    have q1 : Dp K H2 (.ref D1) dRows := .lst (SqL.of (s2 _ _ hD1)) (rows_dp (Paired.impl hR1 fun i x ⟨a, e1, e2, e3⟩ => ⟨a, e1, e2, s2 _ _ e3⟩))
    have q2 : Dp K H2 (.ref D2) dRows := .lst (SqL.of hD2) (rows_dp hT)
    have ee : PyData.eqv dRows dRows = true := by decide +kernel
    refine ⟨dRows, dRows, q1, q2, by decide +kernel, by decide +kernel, _, rfl, ?_⟩
    rw [ee]
    refine iteF ?_
    have s02 : Same H H2 := s1.trans s2
    -- none is wrong
    refine ⟨_, rfl, L, rfl, ⟨_, SqL.of (s02 _ _ hL)⟩, fun D3 n3 => lc_list (K := K) (a := L) (xs := xs) (fun i H' => Same H2 H' ∧ H' D3 = some (.lst []))
      ⟨same_upd n3, upd_same⟩ (fun i H' _ ⟨s3, _⟩ => SqL.of (s3 _ _ (s02 _ _ hL))) ?_ ?_⟩
    · rintro i x H' hx ⟨s3, hD⟩
      obtain ⟨hi, e, rfl, he⟩ := errs_at hE hx
      have hi' : i < 23 := by omega
      have s03 : Same H H' := s02.trans s3
      have sh := hd.same s03
      refine ⟨rfl, _, rfl, e, C i, rfl, (he.same s03).is, D.ex i hi', D.ph i hi', D.ve i hi', true, rfl, iteF ?_⟩
      refine ⟨_, rfl, C i, e, v, rfl, he.same s03, D.xf i hi, D.noN i hi, v, d, rfl, sh.rp, sh.ok, sh.len, sh.dep, _, rfl, rfl, _, rfl, iteNS rfl ⟨s3, hD⟩⟩
    rintro H3 ⟨s3, hD3⟩
    refine ⟨by decide, fun p np => ?_⟩
    have nDp : D3 ≠ p := ne_of_none hD3 np
    refine ⟨.list [], .list [], .lst (SqL.of (by rw [upd_ne nDp]; exact hD3)) .nil, .lst (SqL.of upd_same) .nil, rfl, rfl, ?_⟩
    have e0 : PyData.eqv (.list []) (.list []) = true := by decide +kernel
    rw [e0]
    exact k _ ((s02.trans s3).trans (same_upd np))
end
end K1

namespace K1
open PySem PySem.Spec PyProof.Rows L2
/-! ### how long a shown datum is -/
mutual
def big : PyData → Nat
  | .none => 4
  | .bool _ => 5
  | .int _ => 1921
  | .str x => 10 * x.length + 2
  | .list xs => bigAll xs + 2
  | .tuple xs => bigAll xs + 3
  | .dict kvs => bigKv kvs + 2
def bigAll : List PyData → Nat
  | [] => 0
  | x :: xs => big x + 2 + bigAll xs
def bigKv : List (PyData × PyData) → Nat
  | [] => 0
  | (k, v) :: r => big k + big v + 4 + bigKv r
end
mutual
def codes : PyData → Prop
  | .none | .bool _ | .int _ => True
  | .str x => ∀ c ∈ x.cps.toList, c < 16 ^ 8
  | .list xs => codesAll xs
  | .tuple xs => codesAll xs
  | .dict kvs => codesKv kvs
def codesAll : List PyData → Prop
  | [] => True
  | x :: xs => codes x ∧ codesAll xs
def codesKv : List (PyData × PyData) → Prop
  | [] => True
  | (k, v) :: r => codes k ∧ codes v ∧ codesKv r
end
def lens : List Str → Nat
  | [] => 0
  | t :: r => t.length + 2 + lens r
theorem from_le : ∀ (ts : List Str) (k : Nat) (acc : Str), (textFrom k acc ts).length ≤ acc.length + lens ts
  | [], _, acc => Nat.le_add_right _ _
  | t :: r, k, acc => by
    have ih := from_le r (k + 1) (acc ++ (if k > 0 then ", " else "" : String) ++ t)
    rw [strLen_append, strLen_append] at ih
    have e : (Str.ofString (if k > 0 then ", " else "" : String)).length ≤ 2 := by
      split <;> decide
    show (textFrom (k + 1) _ r).length ≤ acc.length + (t.length + 2 + lens r)
    omega
theorem join_le : ∀ ts : List Str, (Str.join ", " ts).length ≤ lens ts
  | [] => Nat.le_refl _
  | [x] => by
    show x.length ≤ x.length + 2 + 0
    omega
  | x :: y :: r => by
    have ih := join_le (y :: r)
    show (x ++ (", " : Str) ++ Str.join ", " (y :: r)).length ≤ x.length + 2 + lens (y :: r)
    rw [strLen_append, strLen_append]
    have e : (Str.ofString ", ").length = 2 := by decide
    omega
mutual
theorem shown_le : ∀ d : PyData, codes d → d.showable = true → d.shown.length ≤ big d
  | .none, _, _ => by decide
  | .bool b, _, _ => by cases b <;> decide
  | .int i, _, h => int_text_len_1921 (of_decide_eq_true h)
  | .str x, h, _ => StrLaws.reprText_len x h
  | .list xs, h, h' => by
    have ih := shownAll_le xs h h'
    have e := from_le (PyData.shownAll xs) 0 "["
    show (textFrom 0 "[" (PyData.shownAll xs) ++ ("]" : Str)).length ≤ bigAll xs + 2
    rw [strLen_append]
    have e1 : (Str.ofString "[").length = 1 := by decide
    have e2 : (Str.ofString "]").length = 1 := by decide
    omega
  | .tuple xs, h, h' => by
    have ih := shownAll_le xs h h'
    have e := join_le (PyData.shownAll xs)
    show (("(" : Str) ++ Str.join ", " (PyData.shownAll xs) ++ Str.ofString (if (PyData.shownAll xs).length == 1 then ",)" else ")" : String)).length ≤ bigAll xs + 3
    rw [strLen_append, strLen_append]
    have e1 : (Str.ofString "(").length = 1 := by decide
    have e2 : (Str.ofString (if (PyData.shownAll xs).length == 1 then ",)" else ")" : String)).length ≤ 2 := by split <;> decide
    omega
  | .dict kvs, h, h' => by
    have ih := shownKv_le kvs h h'
    have e := join_le (PyData.shownKv kvs)
    show (("{" : Str) ++ Str.join ", " (PyData.shownKv kvs) ++ ("}" : Str)).length ≤ bigKv kvs + 2
    rw [strLen_append, strLen_append]
    have e1 : (Str.ofString "{").length = 1 := by decide
    have e2 : (Str.ofString "}").length = 1 := by decide
    omega
theorem shownAll_le : ∀ ds : List PyData, codesAll ds → PyData.showableAll ds = true → lens (PyData.shownAll ds) ≤ bigAll ds
  | [], _, _ => Nat.le_refl _
  | d :: ds, h, h' => by
    have h2 : (d.showable && PyData.showableAll ds) = true := h'
    rw [Bool.and_eq_true] at h2
    have i1 := shown_le d h.1 h2.1
    have i2 := shownAll_le ds h.2 h2.2
    show d.shown.length + 2 + lens (PyData.shownAll ds) ≤ big d + 2 + bigAll ds
    omega
theorem shownKv_le : ∀ ds : List (PyData × PyData), codesKv ds → PyData.showableKv ds = true → lens (PyData.shownKv ds) ≤ bigKv ds
  | [], _, _ => Nat.le_refl _
  | (a, b) :: ds, h, h' => by
    have h2 : (a.showable && b.showable && PyData.showableKv ds) = true := h'
    rw [Bool.and_eq_true, Bool.and_eq_true] at h2
    have i1 := shown_le a h.1 h2.1.1
    have i2 := shown_le b h.2.1 h2.1.2
    have i3 := shownKv_le ds h.2.2 h2.2
    show (a.shown ++ (": " : Str) ++ b.shown).length + 2 + lens (PyData.shownKv ds) ≤ big a + big b + 4 + bigKv ds
    rw [strLen_append, strLen_append]
    have e : (Str.ofString ": ").length = 2 := by decide
    omega
end
theorem shows_of {H : Hp} {v : V} {d : PyData} (h : Rp H v d) (ok : d.showable = true) (hc : codes d) (hb : big d ≤ 16777216) (hd : d.depth ≤ 60) : Shows H v d :=
  ⟨h, ok, by
    have := shown_le d hc ok
    rw [sizeLine_eq]
    omega, hd⟩
theorem isW_codes {z : Str} (h : IsW z) : ∀ c ∈ z.cps.toList, c < 16 ^ 8 := fun c hc => by
  have := (h.2.2 c hc).2
  have e : (16 : Nat) ^ 8 = 4294967296 := by decide
  omega
end K1

namespace K1
open PySem PySem.Spec PyProof.Rows L2
open PySem.W (Frag)
section
variable {P : Program} {w : World} {K : Frag} {mg : Str → Option Value} {base : Heap} {C I : Nat → Addr}
def spLaw (K : Frag) : Sp := fun vs H Q _ => ∃ (a : Addr) (ns : List Int), vs = [.ref a] ∧ SqL K H a (ns.map V.int) ∧ ∀ H', Q (.bl true) H'
/-- the classes without a field -/
structure Bare (K : Frag) (mg : Str → Option Value) (x : Str) (C : Addr) : Prop where
  g : mg x = some (.ref C)
  q : PySem.W.excIn K C [.type "ValueError", .type "Exception", .type "BaseException", .type "object"] "ValueError.__new__" = true
  k : PySem.W.keepIn K (.ref C) = true
/-- what the law hands to the errors: a word, or something made of it -/
inductive Thing (H : Hp) (z : Str) : V → Prop
  | non : Thing H z .non
  | bl (b : Bool) : Thing H z (.bl b)
  | int (i : Int) : i.natAbs.log2 < 1920 → Thing H z (.int i)
  | str : Thing H z (.str z)
  | t1 {a : Addr} : H a = some (.tup [.str "says", .str z, .int 1, .int 2]) → Thing H z (.ref a)
  | t2 {a b : Addr} : H a = some (.tup [.str z, .ref b]) → H b = some (.lst [.str z]) → (b == sysModules) = false → Thing H z (.ref a)
  | dc {a b : Addr} : H a = some (.dK [(Sum.inr z, .ref b)]) → H b = some (.lst [.str z]) → (b == sysModules) = false → Thing H z (.ref a)
  | l1 {b : Addr} : H b = some (.lst [.str z]) → (b == sysModules) = false → Thing H z (.ref b)
  | l2 {a b c : Addr} : H a = some (.lst [.ref b, .ref c]) → (a == sysModules) = false → H b = some (.lst [.str z]) → (b == sysModules) = false → H c = some (.dK [(Sum.inr "odd", .str z)]) → Thing H z (.ref a)
theorem Thing.same {H H' : Hp} {z : Str} {v : V} (k : Same H H') (h : Thing H z v) : Thing H' z v := by
  cases h with
  | non => exact .non
  | bl b => exact .bl b
  | int i h => exact .int i h
  | str => exact .str
  | t1 h => exact .t1 (k _ _ h)
  | t2 h h' n => exact .t2 (k _ _ h) (k _ _ h') n
  | dc h h' n => exact .dc (k _ _ h) (k _ _ h') n
  | l1 h n => exact .l1 (k _ _ h) n
  | l2 h n h' n' h'' => exact .l2 (k _ _ h) n (k _ _ h') n' (k _ _ h'')
theorem Thing.off {H H' : Hp} {z : Str} {v : V} {p : Addr} {a0 a1 a2 a3 : Int} (k : ∀ b, b ≠ p → H' b = H b) (hp : H p = some (.lst [.int a0, .int a1, .int a2, .int a3])) (h : Thing H z v) : Thing H' z v := by
  have G : ∀ {b : Addr} {o : HO}, H b = some o → o ≠ .lst [.int a0, .int a1, .int a2, .int a3] → H' b = some o := fun {b o} e n => by
    rw [k b (ne_of e hp n)]
    exact e
  cases h with
  | non => exact .non
  | bl b => exact .bl b
  | int i h => exact .int i h
  | str => exact .str
  | t1 h => exact .t1 (G h (by intro e; cases e))
  | t2 h h' n => exact .t2 (G h (by intro e; cases e)) (G h' (by intro e; cases e)) n
  | dc h h' n => exact .dc (G h (by intro e; cases e)) (G h' (by intro e; cases e)) n
  | l1 h n => exact .l1 (G h (by intro e; cases e)) n
  | l2 h n h' n' h'' => exact .l2 (G h (by intro e; cases e)) n (G h' (by intro e; cases e)) n' (G h'' (by intro e; cases e))
/-- a list or a dict stands there -/
def Plain (H : Hp) (m : Addr) : Prop := (∃ xs, H m = some (.lst xs)) ∨ ∃ kvs, H m = some (.dK kvs)
/-- kept but at M -/
def OffM (M : List Addr) (H H' : Hp) : Prop := ∀ b o, H b = some o → b ∉ M → H' b = some o
theorem ErrAt.offM {M : List Addr} {H H' : Hp} {C e : Addr} {v : V} (k : OffM M H H') (pl : ∀ m ∈ M, Plain H m) (h : ErrAt H C e v) : ErrAt H' C e v := by
  obtain ⟨d, h1, h2⟩ := h
  have no : ∀ {b : Addr} {φ : Heap → Prop}, H b = some (.ext φ) → b ∉ M := fun {b φ} e m => by
    rcases pl b m with ⟨xs, q⟩ | ⟨kvs, q⟩
    · rw [q] at e
      cases e
    · rw [q] at e
      cases e
  exact ⟨d, k _ _ h1 (no h1), k _ _ h2 (no h2)⟩
theorem ErrsAt.offM {M : List Addr} {H H' : Hp} {cs : List Addr} {xs : List V} {v : V} (k : OffM M H H') (pl : ∀ m ∈ M, Plain H m) (h : ErrsAt H cs xs v) : ErrsAt H' cs xs v :=
  Paired.impl h fun _ _ ⟨e, e1, e2⟩ => ⟨e, e1, e2.offM k pl⟩
abbrev reprR : List V → Hp → VK → Prop := fun xs H Q => ∃ v d, xs = [v] ∧ Rp H v d ∧ d.showable = true ∧ d.shown.length ≤ sizeLine ∧ d.depth ≤ 60 ∧ Q (.str d.shown) H
abbrev rightR (C : Nat → Addr) (t : TA) : TE := fun σ H Q => t σ H fun vs H1 => spRight C vs H1 Q E0
/-- if not right(some, repr(thing)) or not right(called, repr(thing)): .. -/
theorem both_right {σ : L2.St} {D : Ends} {Hm : Hp} {C : Nat → Addr} {L6 L7 : Addr} {v : V} {x6 x7 : List V} {d : PyData} {u : TS} (q6 : σ[6]? = some (some (.ref L6))) (q7 : σ[7]? = some (some (.ref L7))) (q4 : σ[4]? = some (some v)) (e6 : Hm L6 = some (.lst x6)) (g6 : ErrsAt Hm (csOf C) x6 v)
    (e7 : Hm L7 = some (.lst x7)) (g7 : ErrsAt Hm (csOf C) x7 v) (sh : Shows Hm v d) (k : ∀ H', Same Hm H' → D.nx σ H') :
    tIfS (tOr (tNot (tB (rightR C (tCons (tVar 6) (tCons (tCB reprR (tCons (tVar 4) tNil)) tNil))))) (tNot (tB (rightR C (tCons (tVar 7) (tCons (tCB reprR (tCons (tVar 4) tNil)) tNil)))))) u tNext D σ Hm := by
  refine ⟨_, q6, _, q4, v, d, rfl, sh.rp, sh.ok, sh.len, sh.dep, L6, x6, v, d, rfl, e6, g6, sh, fun H1 s1 => ⟨true, rfl, iteF ?_⟩⟩
  have sh1 := sh.same s1
  exact ⟨_, q7, _, q4, v, d, rfl, sh1.rp, sh1.ok, sh1.len, sh1.dep, L7, x7, v, d, rfl, s1 _ _ e7, g7.same s1, sh1, fun H2 s2 => ⟨true, rfl, iteF (k H2 (s1.trans s2))⟩⟩
/-- if isinstance(x, T): .. -/
theorem isi_if {K : Frag} {σ : L2.St} {H : Hp} {i : Nat} {v : V} {tn cn : String} {b : Bool} {Q : Bool → Hp → Prop} (q : σ[i]? = some (some v)) (ty : TyX K H v (.type tn)) (kt : kitB tn cn = some b) (k : Q b H) :
    tB (tCB (rIsi K) (tCons (tVar i) (tCons (tC (.ty cn)) tNil))) σ H Q := ⟨_, q, v, .ty cn, _, _, b, rfl, .ty cn, ty, kit_ty kt, b, rfl, k⟩
theorem seq_isi {K : Frag} {σ : L2.St} {H : Hp} {i : Nat} {v : V} {tn cn : String} {b : Bool} {t w : TS} {D : Ends} (q : σ[i]? = some (some v)) (ty : TyX K H v (.type tn)) (kt : kitB tn cn = some b) (k : if b = true then t { D with nx := w D } σ H else w D σ H) :
    tSeq (tIfS (tB (tCB (rIsi K) (tCons (tVar i) (tCons (tC (.ty cn)) tNil)))) t tNext) w D σ H := isi_if q ty kt k
theorem seq_isi2 {K : Frag} {σ : L2.St} {H : Hp} {i : Nat} {v : V} {tn cn : String} {b : Bool} {c : TT} {t w : TS} {D : Ends} (q : σ[i]? = some (some v)) (ty : TyX K H v (.type tn)) (kt : kitB tn cn = some b)
    (k : if b = true then c σ H (fun b H1 => if b = true then t { D with nx := w D } σ H1 else w D σ H1) else w D σ H) :
    tSeq (tIfS (tAnd (tB (tCB (rIsi K) (tCons (tVar i) (tCons (tC (.ty cn)) tNil)))) c) t tNext) w D σ H := by
  refine isi_if q ty kt ?_
  cases b with
  | true => exact iteT k
  | false => exact iteF (iteF k)
theorem not_LATER {z : Str} (hz : IsW z) : ¬ ((Sum.inr z : Key) = Sum.inr ("LATER" : Str)) := fun e => by
  have e' : z = "LATER" := Sum.inr.inj e
  subst e'
  have := (hz.2.2 76 (by decide)).1
  omega
theorem w_small {z : Str} (hz : IsW z) : 10 * z.length + 2 ≤ 82 := by
  have := hz.2.1
  omega
theorem codes_later : ∀ c ∈ ("later" : Str).cps.toList, c < 16 ^ 8 := by decide +kernel
theorem codes_says : ∀ c ∈ ("says" : Str).cps.toList, c < 16 ^ 8 := by decide +kernel
theorem codes_odd : ∀ c ∈ ("odd" : Str).cps.toList, c < 16 ^ 8 := by decide +kernel
theorem codes_LATER : ∀ c ∈ ("LATER" : Str).cps.toList, c < 16 ^ 8 := by decide +kernel
theorem show_tup {H : Hp} {a : Addr} {z : Str} (hz : IsW z) (h : H a = some (.tup [.str "later", .str z])) : Shows H (.ref a) (.tuple [.str "later", .str z]) := by
  have wz := w_small hz
  have l : ("later" : Str).length = 5 := by decide
  refine shows_of (.tup h (.cons (.str _) (.cons (.str _) .nil))) rfl ⟨codes_later, isW_codes hz, trivial⟩ ?_ (by show 1 ≤ 60; decide)
  show (10 * ("later" : Str).length + 2) + 2 + ((10 * z.length + 2) + 2 + 0) + 3 ≤ 16777216
  omega
theorem Thing.shows {H : Hp} {z : Str} {v : V} (hz : IsW z) (h : Thing H z v) : ∃ d, Shows H v d := by
  have wz := w_small hz
  have cz := isW_codes hz
  have w1 : ("says" : Str).length = 4 := by decide
  have w2 : ("odd" : Str).length = 3 := by decide
  cases h with
  | non => exact ⟨_, shows_of .non rfl trivial (by decide) (by decide)⟩
  | bl b => exact ⟨_, shows_of (.bl b) rfl trivial (by show 5 ≤ 16777216; decide) (by show 0 ≤ 60; decide)⟩
  | int i h => exact ⟨_, shows_of (.int i) (decide_eq_true h) trivial (by show 1921 ≤ 16777216; decide) (by show 0 ≤ 60; decide)⟩
  | str => exact ⟨_, shows_of (.str z) rfl cz (by show 10 * z.length + 2 ≤ 16777216; omega) (by show 0 ≤ 60; decide)⟩
  | t1 h =>
    refine ⟨_, shows_of (.tup h (.cons (.str _) (.cons (.str _) (.cons (.int _) (.cons (.int _) .nil))))) (by show (true && (true && (decide ((1 : Int).natAbs.log2 < 1920) && (decide ((2 : Int).natAbs.log2 < 1920) && true)))) = true; decide +kernel) ⟨codes_says, cz, trivial, trivial, trivial⟩ ?_ (by show 1 ≤ 60; decide)⟩
    show (10 * ("says" : Str).length + 2) + 2 + ((10 * z.length + 2) + 2 + (1921 + 2 + (1921 + 2 + 0))) + 3 ≤ 16777216
    omega
  | t2 h h' n =>
    refine ⟨_, shows_of (.tup h (.cons (.str _) (.cons (.lst h' n (.cons (.str _) .nil)) .nil))) rfl ⟨cz, ⟨cz, trivial⟩, trivial⟩ ?_ (by show 2 ≤ 60; decide)⟩
    show (10 * z.length + 2) + 2 + (((10 * z.length + 2) + 2 + 0 + 2) + 2 + 0) + 3 ≤ 16777216
    omega
  | dc h h' n =>
    refine ⟨_, shows_of (.dic (kvs := [(z, _)]) h (.cons (.lst h' n (.cons (.str _) .nil)) .nil)) rfl ⟨cz, ⟨cz, trivial⟩, trivial⟩ ?_ (by show 2 ≤ 60; decide)⟩
    show (10 * z.length + 2) + ((10 * z.length + 2) + 2 + 0 + 2) + 4 + 0 + 2 ≤ 16777216
    omega
  | l1 h n =>
    refine ⟨_, shows_of (.lst h n (.cons (.str _) .nil)) rfl ⟨cz, trivial⟩ ?_ (by show 1 ≤ 60; decide)⟩
    show (10 * z.length + 2) + 2 + 0 + 2 ≤ 16777216
    omega
  | l2 h n h' n' h'' =>
    refine ⟨_, shows_of (.lst h n (.cons (.lst h' n' (.cons (.str _) .nil)) (.cons (.dic (kvs := [("odd", _)]) h'' (.cons (.str _) .nil)) .nil))) rfl ⟨⟨cz, trivial⟩, ⟨codes_odd, cz, trivial⟩, trivial⟩ ?_ (by show 2 ≤ 60; decide)⟩
    show ((10 * z.length + 2) + 2 + 0 + 2) + 2 + (((10 * ("odd" : Str).length + 2) + (10 * z.length + 2) + 4 + 0 + 2) + 2 + 0) + 2 ≤ 16777216
    omega
theorem ok_law {f fp fps fm fd_ fo fw fF fCa fB fc fe fr B0 : Addr} {fd fdp fdps fdm fdd fdo fdw fdF fdCa fdB fdc fde fdr : FuncData} (T : Top K mg "law" sLaw ["_law_script"] f fd) (TP : Top K mg "_law_purse" sPurse ["_law_script", "_law_at"] fp fdp)
    (TPs : Top K mg "_law_purses" sPurses ["_law_script", "_law_few"] fps fdps) (TM : Top K mg "_law_mixed" sMixed ["_law_seed", "_law_spin", "_law_at"] fm fdm) (TD : Top K mg "_law_draw" sDraw ["_law_purse_here", "_law_many"] fd_ fdd)
    (TO : Top K mg "_law_one_of" sOneOf ["_law_purse_here", "_law_some"] fo fdo) (TW : Top K mg "_law_word" sWord ["_law_purse_here"] fw fdw) (TF : Top K mg "_law_first" sFirst ["_law_thing"] fF fdF) (TCa : Top K mg "_law_called" sCalled ["_law_thing"] fCa fdCa)
    (TB : Top K mg "_law_bare" sBare [] fB fdB) (TC : Top K mg "_law_code" sCode ["_law_error"] fc fdc) (TE : Top K mg "_law_is_error" sIsError ["_law_error"] fe fde) (TR : Top K mg "_law_right" sRight ["_law_some", "_law_noted"] fr fdr)
    (R : Errs K mg C I) (D : Kinds K C B0) (b0 : Bare K mg "PhraseError" B0) (b21 : Bare K mg "NothingToUndo" (C 21)) (b22 : Bare K mg "NothingToRedo" (C 22)) (B : Blt mg) : FnG P w K mg base 5 f fd ["_law_script"] (spLaw K) := by
  have GPs : FnOk P w K mg base CX0 2 fps fdps ["_law_script", "_law_few"] (spPurses K) := ok_purses TPs TP B
  have GO : FnOk P w K mg base CX0 3 fo fdo ["_law_purse_here", "_law_some"] spOneOf := ok_oneOf TO TD TM B
  have GW : FnOk P w K mg base CX0 3 fw fdw ["_law_purse_here"] spWord := ok_word TW TD TM B
  have GF : FnOk P w K mg base CX0 2 fF fdF ["_law_thing"] (spMany C) := ok_first TF R
  have GCa : FnOk P w K mg base CX0 2 fCa fdCa ["_law_thing"] (spMany C) := ok_called TCa R
  have GB : FnOk P w K mg base CX0 2 fB fdB [] (spBare C) := ok_bare TB R
  have GC : FnOk P w K mg base CX0 1 fc fdc ["_law_error"] (spCode K C) := ok_code TC R B
  have GE : FnOk P w K mg base CX0 1 fe fde ["_law_error"] (spIsError K B0) := ok_isError TE b0.g B
  have GR : FnG P w K mg base 2 fr fdr ["_law_some", "_law_noted"] (spRight C) := ok_right TR TC TE R D b0.g B
  refine gn_of T.F scLaw (fun vs H Q E h => ?_) (fun cdv A outer s H vs Q hG hr h => ?_)
  · obtain ⟨_, _, rfl, _⟩ := h
    rfl
  · obtain ⟨a, ns, rfl, hS, k⟩ := h
    have hr3 : Room 3 _ := hr.mono (by decide)
    have hr2 : Room 2 _ := hr.mono (by decide)
    have hr1 : Room 1 _ := hr.mono (by decide)
    have hu := hu_of hr
    refine ⟨_, (pss_cons (ps_for PassesOwn.never rfl (pi_list (pe_call GPs hr2 rfl TPs.g TPs.F.kp TPs.b .nil pass0 (pa_cons (pv 0) (pa_cons pe_int pa_nil)))) (pg_name (i := 1) scLaw.nd rfl (Or.inl rfl)) (pss_cons (ps_set (i := 2) scLaw.nd rfl (Or.inl rfl) (pe_call GW hr3 rfl TW.g TW.F.kp TW.b .nil pass0 (pa_cons (pv 1) pa_nil)))
      (pss_cons (ps_set (i := 3) scLaw.nd rfl (Or.inl rfl) (pe_lst (pa_cons pe_non (pa_cons pe_bl (pa_cons pe_bl (pa_cons pe_int (pa_cons (pv 2) (pa_cons (pe_un un_neg (pe_ix ix_list (pv 1) pe_int (fun _ _ => rfl))) (pa_cons (pe_tup (pa_cons pe_str (pa_cons (pv 2) (pa_cons pe_int (pa_cons pe_int pa_nil))))) (pa_cons (pe_tup (pa_cons (pv 2) (pa_cons (pe_lstN (pa_cons (pv 2) pa_nil)) pa_nil))) (pa_cons (pe_disp (pps_cons (pv 2) (pe_lstN (pa_cons (pv 2) pa_nil)) pps_nil) (by rfl) (by rfl) (fun z => by cases z) (by decide)) pa_nil)))))))))))
      (pss_cons (ps_set (i := 4) scLaw.nd rfl (Or.inl rfl) (pe_call GO hr3 rfl TO.g TO.F.kp TO.b .nil pass0 (pa_cons (pv 1) (pa_cons (pe_op op_cat (pv 3) (pe_lst (pa_cons (pe_lstN (pa_cons (pv 2) pa_nil)) (pa_cons (pe_lstN (pa_cons (pe_lstN (pa_cons (pv 2) pa_nil)) (pa_cons (pe_disp (pps_cons pe_str (pv 2) pps_nil) (by rfl) (by rfl) (fun z => by cases z) (by decide)) pa_nil))) pa_nil)))) pa_nil))))
      (pss_cons (ps_set (i := 5) scLaw.nd rfl (Or.inl rfl) (pe_callB (call_reprD hG hr) (by rfl) B.repr (by decide +kernel) (pa_cons (pv 4) pa_nil)))
      (pss_cons (ps_par3 (i := 6) (j := 7) (l := 8) rfl scLaw.nd rfl rfl rfl (by decide) (by decide) (by decide) rfl rfl rfl (pa_cons (pe_call GF hr2 rfl TF.g TF.F.kp TF.b .nil pass0 (pa_cons (pv 4) pa_nil)) (pa_cons (pe_call GCa hr2 rfl TCa.g TCa.F.kp TCa.b .nil pass0 (pa_cons (pv 4) pa_nil)) (pa_cons (pe_call GF hr2 rfl TF.g TF.F.kp TF.b .nil pass0 (pa_cons (pe_tup (pa_cons pe_str (pa_cons (pv 2) pa_nil))) pa_nil)) pa_nil))) (by rfl))
      (pss_cons (ps_if (PW.pt (pw_or (pt_not (pt_val (pe_gcall GR hG hr2 rfl TR.g TR.F.kp TR.b (pa_cons (pe_call0 GB hr2 rfl TB.g TB.F.kp TB.b .nil pass0) (pa_cons pe_str pa_nil))))) (pw_or1 (pt_not (pt_val (pe_gcall GR hG hr2 rfl TR.g TR.F.kp TR.b (pa_cons (pv 8) (pa_cons (pe_callB (call_reprD hG hr) (by rfl) B.repr (by decide +kernel) (pa_cons (pe_tup (pa_cons pe_str (pa_cons (pv 2) pa_nil))) pa_nil)) pa_nil)))))))) (pss_one (ps_ret pe_bl)) pss_nil)
      (pss_cons (ps_if (PW.pt (pw_or (pt_not (pt_val (pe_gcall GR hG hr2 rfl TR.g TR.F.kp TR.b (pa_cons (pv 6) (pa_cons (pv 5) pa_nil))))) (pw_or1 (pt_not (pt_val (pe_gcall GR hG hr2 rfl TR.g TR.F.kp TR.b (pa_cons (pv 7) (pa_cons (pv 5) pa_nil)))))))) (pss_one (ps_ret pe_bl)) pss_nil)
      (pss_cons (ps_if (pt_val (pe_callB call_isi (by rfl) B.isi (by decide +kernel) (pa_cons (pv 4) (pa_cons (pe_bltn (v := .ty "list") (by rfl) B.list (by decide +kernel) rfl) pa_nil)))) (pss_one (ps_expr (pe_bm PySem.F.plainAttrs_list PySem.F.slot_list_append PySem.F.type_list_append mt_append (pv 4) (pa_cons pe_str pa_nil)))) pss_nil)
      (pss_cons (ps_if (pt_val (pe_callB call_isi (by rfl) B.isi (by decide +kernel) (pa_cons (pv 4) (pa_cons (pe_bltn (v := .ty "dict") (by rfl) B.dict (by decide +kernel) rfl) pa_nil)))) (pss_cons (ps_expr (pe_bm PySem.F.plainAttrs_list PySem.F.slot_list_append PySem.F.type_list_append mt_append (pe_dget hu (pv 4) (pv 2) (fun _ _ => rfl)) (pa_cons pe_str pa_nil)))
      (pss_one (ps_dput hu (pv 4) pe_str pe_int rfl))) pss_nil)
      (pss_cons (ps_if (PW.pt (pw_and (pt_val (pe_callB call_isi (by rfl) B.isi (by decide +kernel) (pa_cons (pv 4) (pa_cons (pe_bltn (v := .ty "tuple") (by rfl) B.tuple (by decide +kernel) rfl) pa_nil)))) (pw_and1 (pt_val (pe_callB call_isi (by rfl) B.isi (by decide +kernel) (pa_cons (pe_ix ix_tup (pv 4) pe_int (fun _ _ => rfl)) (pa_cons (pe_bltn (v := .ty "list") (by rfl) B.list (by decide +kernel) rfl) pa_nil))))))) (pss_one (ps_expr (pe_bm PySem.F.plainAttrs_list PySem.F.slot_list_append PySem.F.type_list_append mt_append (pe_ix ix_tup (pv 4) pe_int (fun _ _ => rfl)) (pa_cons pe_str pa_nil)))) pss_nil)
      (pss_one (ps_if (PW.pt (pw_or (pt_not (pt_val (pe_gcall GR hG hr2 rfl TR.g TR.F.kp TR.b (pa_cons (pv 6) (pa_cons (pe_callB (call_reprD hG hr) (by rfl) B.repr (by decide +kernel) (pa_cons (pv 4) pa_nil)) pa_nil))))) (pw_or1 (pt_not (pt_val (pe_gcall GR hG hr2 rfl TR.g TR.F.kp TR.b (pa_cons (pv 7) (pa_cons (pe_callB (call_reprD hG hr) (by rfl) B.repr (by decide +kernel) (pa_cons (pv 4) pa_nil)) pa_nil)))))))) (pss_one (ps_ret pe_bl)) pss_nil)))))))))))))
      (pss_cons (ps_set (i := 9) scLaw.nd rfl (Or.inl rfl) (pe_lst (pa_cons (pe_bare PySem.F.excBase_ValueError b21.q b21.g b21.k) (pa_cons (pe_bare PySem.F.excBase_ValueError b22.q b22.g b22.k) pa_nil))))
      (pss_cons (ps_if (pt_cmpR (op_neD hr.units) (pe_lc (own := [("_law_error", 10)]) (g := gName 10) (tt := tYes) rfl scLaw.nd (pi_list (pv 9)) (blkOk_by (N := ["_law_script", "_law_purse_here", "_law_word_here", "_law_plain", "_law_thing", "_law_noted", "_law_some", "_law_called_here", "_law_later", "_law_rest", "_law_error"]) (sc := defScope sLaw) (by decide +kernel)) (fun _ _ _ _ _ => pg_name (i := 10) scLaw.nd rfl (Or.inl rfl)) (fun _ _ _ _ _ => pts_nil) (fun _ _ _ _ _ => (pe_call GC hr1 rfl TC.g TC.F.kp TC.b .nil pass0 (pa_cons (pv 10) pa_nil)))) (pe_lst (pa_cons (pe_lst (pa_cons pe_int pa_nil)) (pa_cons (pe_lst (pa_cons pe_int pa_nil)) pa_nil))) (nomark _)) (pss_one (ps_ret pe_bl)) pss_nil)
      (pss_cons (ps_expr (pe_bm PySem.F.plainAttrs_list PySem.F.slot_list_append PySem.F.type_list_append mt_append (pv 9) (pa_cons (pe_bare PySem.F.excBase_ValueError b0.q b0.g b0.k) pa_nil)))
      (pss_one (ps_ret (pe_and (pe_callB (cr_all rfl) (by rfl) B.all (by decide +kernel) (pa_cons (pe_lc (own := [("_law_error", 10)]) (g := gName 10) (tt := tYes) rfl scLaw.nd (pi_list (pv 9)) (blkOk_by (N := ["_law_script", "_law_purse_here", "_law_word_here", "_law_plain", "_law_thing", "_law_noted", "_law_some", "_law_called_here", "_law_later", "_law_rest", "_law_error"]) (sc := defScope sLaw) (by decide +kernel)) (fun _ _ _ _ _ => pg_name (i := 10) scLaw.nd rfl (Or.inl rfl)) (fun _ _ _ _ _ => pts_nil) (fun _ _ _ _ _ => (pe_call GE hr1 rfl TE.g TE.F.kp TE.b .nil pass0 (pa_cons (pv 10) pa_nil)))) pa_nil))
        (pe_one (pe_cmpR (op_eqD hr.units) (pe_call GC hr1 rfl TC.g TC.F.kp TC.b .nil pass0 (pa_cons (pe_ix ix_list (pv 9) pe_int (fun _ _ => rfl)) pa_nil)) (pe_lst pa_nil) (nomark _)))))))))), ?_⟩
    refine ⟨_, rfl, a, ns, rfl, hS, fun L p H1 s1 nL np nLp hL hp => ⟨L, rfl, ⟨_, SqL.of hL⟩, for_list (K := K) (a := L) (xs := [.ref p])
      (fun i σ H' => ∃ v1 v2 v3 v4 v5 v6 v7 v8 v9 v10 : Option V, σ = [some (.ref a), v1, v2, v3, v4, v5, v6, v7, v8, v9, v10] ∧ H' L = some (.lst [.ref p]) ∧ (i = 0 → H' = H1))
      ⟨_, _, _, _, _, _, _, _, _, _, rfl, hL, fun _ => rfl⟩ (fun i σ H' _ ⟨_, _, _, _, _, _, _, _, _, _, _, h, _⟩ => SqL.of h) ?_ ?_⟩⟩
    · rintro i x σ H' hx ⟨v1, v2, v3, v4, v5, v6, v7, v8, v9, v10, rfl, _, h0⟩
      have i0 : i = 0 := by
        have := (List.getElem?_eq_some_iff.mp hx).1
        simp at this
        exact this
      subst i0
      obtain rfl := h0 rfl
      obtain rfl : V.ref p = x := by simpa using hx
      -- the word
      refine ⟨_, rfl, p, 0, rfl, hp, by decide, fun z H2 hz k2 hp2 => ?_⟩
      obtain ⟨p0, p1, p2, p3, q, r0, r1, r2, r3⟩ := id hp2
      -- the things
      refine ⟨_, rfl, _, rfl, _, _, _, _, rfl, rfl, SqL.of q, atI_nat (j := 1) rfl, _, rfl, ?_⟩
      have f1 : ∀ {n : Nat}, n ≤ 100 → n ≤ sizeLine := few_line
      refine ⟨_, rfl, f1 (by show 4 ≤ 100; decide), fun t6 n6 => ⟨_, rfl, _, rfl, f1 (by show 1 ≤ 100; decide), fun l7 nl7 sl7 => ⟨f1 (by show 2 ≤ 100; decide), fun t7 n7 p8 n8 => ⟨_, rfl, _, rfl, f1 (by show 1 ≤ 100; decide), fun l8 nl8 sl8 => ?_⟩⟩⟩⟩
      have ne8 : p8 ≠ l8 := ne_of_none upd_same nl8
      refine ⟨by rw [upd_ne ne8, upd_same], [(Sum.inr z, .ref l8)], rfl, (by show 1 ≤ 15; decide), f1 (by show 9 ≤ 100; decide), fun P9 nP => ?_⟩
      refine ⟨_, rfl, _, rfl, _, rfl, f1 (by show 1 ≤ 100; decide), fun l9 nl9 sl9 => ⟨_, rfl, f1 (by show 1 ≤ 100; decide), fun la nla sla d10 nd10 => ⟨_, rfl, upd_same, [(Sum.inr "odd", .str z)], rfl, (by show 1 ≤ 15; decide), f1 (by show 2 ≤ 100; decide), fun l10 n10 s10 => ⟨f1 (by show 2 ≤ 100; decide), fun X nX => ?_⟩⟩⟩⟩
      -- the heaps, one behind another
      generalize e2 : H2 = A2 at *
      generalize e3 : upd A2 t6 (.tup [.str "says", .str z, .int 1, .int 2]) = A3 at *
      have S3 : Same A2 A3 := by
        rw [← e3]
        exact same_upd n6
      have F3 : A3 t6 = some (.tup [.str "says", .str z, .int 1, .int 2]) := by
        rw [← e3, upd_same]
      generalize e4 : upd A3 l7 (.lst [.str z]) = A4 at *
      have S4 : Same A3 A4 := by
        rw [← e4]
        exact same_upd nl7
      have F4 : A4 l7 = some (.lst [.str z]) := by
        rw [← e4, upd_same]
      generalize e5 : upd A4 t7 (.tup [.str z, .ref l7]) = A5 at *
      have S5 : Same A4 A5 := by
        rw [← e5]
        exact same_upd n7
      have F5 : A5 t7 = some (.tup [.str z, .ref l7]) := by
        rw [← e5, upd_same]
      have nl8' : A5 l8 = none := by
        rw [upd_ne ne8.symm] at nl8
        exact nl8
      generalize e6 : upd (upd (upd A5 p8 (.dK [])) l8 (.lst [.str z])) p8 (.dK (mergeK [] [((Sum.inr z : Key), V.ref l8)])) = A6 at *
      have S6 : Same A5 A6 := fun b o e => by
        rw [← e6, upd_ne (ne_of_none e n8), upd_ne (ne_of_none e nl8'), upd_ne (ne_of_none e n8)]
        exact e
      have F6 : A6 p8 = some (.dK [(Sum.inr z, .ref l8)]) := by
        rw [← e6, upd_same]
        rfl
      have F6l : A6 l8 = some (.lst [.str z]) := by
        rw [← e6, upd_ne ne8.symm, upd_same]
      generalize e7 : upd A6 P9 (.lst [.non, .bl true, .bl false, .int 0, .str z, .int (-p1), .ref t6, .ref t7, .ref p8]) = A7 at *
      have S7 : Same A6 A7 := by
        rw [← e7]
        exact same_upd nP
      have F7 : A7 P9 = some (.lst [.non, .bl true, .bl false, .int 0, .str z, .int (-p1), .ref t6, .ref t7, .ref p8]) := by
        rw [← e7, upd_same]
      generalize e8 : upd A7 l9 (.lst [.str z]) = A8 at *
      have S8 : Same A7 A8 := by
        rw [← e8]
        exact same_upd nl9
      have F8 : A8 l9 = some (.lst [.str z]) := by
        rw [← e8, upd_same]
      generalize e9 : upd A8 la (.lst [.str z]) = A9 at *
      have S9 : Same A8 A9 := by
        rw [← e9]
        exact same_upd nla
      have F9 : A9 la = some (.lst [.str z]) := by
        rw [← e9, upd_same]
      generalize e10 : upd (upd A9 d10 (.dK [])) d10 (.dK (mergeK [] [((Sum.inr "odd" : Key), V.str z)])) = A10 at *
      have S10 : Same A9 A10 := fun b o e => by
        rw [← e10, upd_ne (ne_of_none e nd10), upd_ne (ne_of_none e nd10)]
        exact e
      have F10 : A10 d10 = some (.dK [(Sum.inr "odd", .str z)]) := by
        rw [← e10, upd_same]
        rfl
      generalize e11 : upd A10 l10 (.lst [.ref la, .ref d10]) = A11 at *
      have S11 : Same A10 A11 := by
        rw [← e11]
        exact same_upd n10
      have F11 : A11 l10 = some (.lst [.ref la, .ref d10]) := by
        rw [← e11, upd_same]
      generalize e12 : upd A11 X (.lst [.ref l9, .ref l10]) = A12 at *
      have S12 : Same A11 A12 := by
        rw [← e12]
        exact same_upd nX
      have F12 : A12 X = some (.lst [.ref l9, .ref l10]) := by
        rw [← e12, upd_same]
      have T812 : Same A8 A12 := ((S9.trans S10).trans S11).trans S12
      have T612 : Same A6 A12 := (S7.trans S8).trans T812
      have T212 : Same A2 A12 := (((S3.trans S4).trans S5).trans S6).trans T612
      refine ⟨P9, X, _, _, rfl, rfl, S8.trans T812 _ _ F7, F12, f1 (by show 11 ≤ 100; decide), fun Y nY => ?_⟩
      have T13 := same_upd (o := .lst ([.non, .bl true, .bl false, .int 0, .str z, .int (-p1), .ref t6, .ref t7, .ref p8] ++ [.ref l9, .ref l10])) nY
      have q13 := T13 _ _ (T212 _ _ q)
      refine ⟨p, Y, 10, _, rfl, ⟨p0, p1, p2, p3, q13, r0, r1, r2, r3⟩, by decide, (ne_of_none (T212 _ _ q) nY).symm, upd_same, (by show 1 ≤ 11; decide), (by show 11 < 1048576; decide), fun i v H4 hv off4 hp4 => ?_⟩
      generalize e13 : upd A12 Y _ = A13 at *
      have th13 : Thing A13 z v := by
        have G : ∀ {b : Addr} {o : HO}, A12 b = some o → A13 b = some o := fun e => T13 _ _ e
        have lo : (-p1).natAbs.log2 < 1920 := by
          by_cases n0 : (-p1).natAbs = 0
          · rw [n0]
            decide
          · refine (Nat.log2_lt n0).mpr (Nat.lt_trans (m := 2 ^ 31) ?_ (Nat.pow_lt_pow_right (by decide) (by decide)))
            have : (2 : Nat) ^ 31 = 2147483648 := by decide
            omega
        match i, hv with
        | 0, hv => obtain rfl := Option.some.inj hv; exact .non
        | 1, hv => obtain rfl := Option.some.inj hv; exact .bl true
        | 2, hv => obtain rfl := Option.some.inj hv; exact .bl false
        | 3, hv => obtain rfl := Option.some.inj hv; exact .int 0 (by decide)
        | 4, hv => obtain rfl := Option.some.inj hv; exact .str
        | 5, hv => obtain rfl := Option.some.inj hv; exact .int (-p1) lo
        | 6, hv => obtain rfl := Option.some.inj hv; exact .t1 (G (T612 _ _ (((S4.trans S5).trans S6) _ _ F3)))
        | 7, hv => obtain rfl := Option.some.inj hv; exact .t2 (G (T612 _ _ (S6 _ _ F5))) (G (T612 _ _ ((S5.trans S6) _ _ F4))) sl7
        | 8, hv => obtain rfl := Option.some.inj hv; exact .dc (G (T612 _ _ F6)) (G (T612 _ _ F6l)) sl8
        | 9, hv => obtain rfl := Option.some.inj hv; exact .l1 (G (T812 _ _ F8)) sl9
        | 10, hv => obtain rfl := Option.some.inj hv; exact .l2 (G (S12 _ _ F11)) s10 (G (((S10.trans S11).trans S12) _ _ F9)) sla (G ((S11.trans S12) _ _ F10))
        | n + 11, hv => exact absurd hv (by simp)
      have th4 : Thing H4 z v := th13.off off4 q13
      have hL4 : H4 L = some (.lst [.ref p]) := by
        rw [off4 L nLp]
        exact T13 _ _ (T212 _ _ (k2 L _ hL nLp))
      obtain ⟨d, sh⟩ := th4.shows hz
      -- noted; some, called, later
      refine ⟨_, rfl, v, d, rfl, sh.rp, sh.ok, sh.len, sh.dep, ?_⟩
      refine ⟨_, rfl, v, rfl, fun H5 L6 x6 s5 nL6 h6 g6 => ⟨_, rfl, v, rfl, fun H6 L7 x7 s6 nL7 h7 g7 => ⟨_, rfl, f1 (by show 2 ≤ 100; decide), fun t8 nt8 => ⟨_, rfl, fun H7 L8 x8 s7 nL8 h8 g8 => ⟨_, _, _, rfl, ?_⟩⟩⟩⟩⟩
      have st := (same_upd (o := .tup [.str "later", .str z]) nt8).trans s7
      have t8h := s7 _ _ (upd_same (H := H6) (a := t8) (o := .tup [.str "later", .str z]))
      -- bare ones, later ones
      refine ⟨rfl, fun H8 M9 x9 s8 nM9 h9 g9 => ⟨M9, x9, .non, .none, rfl, h9, g9, shows_of .non rfl trivial (by decide) (by decide), fun H9 s9 => ⟨true, rfl, iteF ?_⟩⟩⟩
      refine ⟨_, rfl, _, rfl, f1 (by show 2 ≤ 100; decide), fun t9 nt9 => ?_⟩
      have sh9 := show_tup (H := upd H9 t9 (.tup [.str "later", .str z])) hz upd_same
      have s79 := (s8.trans s9).trans (same_upd (o := .tup [.str "later", .str z]) nt9)
      refine ⟨_, _, rfl, sh9.rp, sh9.ok, sh9.len, sh9.dep, L8, x8, .ref t8, _, rfl, s79 _ _ h8, g8.same s79, show_tup hz (s79 _ _ t8h), fun HA sA => ⟨true, rfl, iteF ?_⟩⟩
      -- as noted
      have s5A : Same H5 HA := ((s6.trans st).trans s79).trans sA
      have s6A : Same H6 HA := (st.trans s79).trans sA
      have s4A : Same H4 HA := s5.trans s5A
      refine ⟨_, rfl, _, rfl, L6, x6, v, d, rfl, s5A _ _ h6, g6.same s5A, sh.same s4A, fun HB sB => ⟨true, rfl, iteF ⟨_, rfl, _, rfl, L7, x7, v, d, rfl, sB _ _ (s6A _ _ h7), (g7.same s6A).same sB, (sh.same s4A).same sB, fun HC sC => ⟨true, rfl, iteF ?_⟩⟩⟩⟩
      have sBC := sB.trans sC
      have s4C : Same H4 HC := s4A.trans sBC
      have h6C := sBC _ _ (s5A _ _ h6)
      have g6C := (g6.same s5A).same sBC
      have h7C := sBC _ _ (s6A _ _ h7)
      have g7C := (g7.same s6A).same sBC
      have hLC := s4C _ _ hL4
      have fin : ∀ (Hm : Hp) (M : List Addr), OffM M HC Hm → (∀ m ∈ M, Plain HC m ∧ (∃ o, H4 m = some o) ∧ m ≠ L) →
          Hm L6 = some (.lst x6) ∧ ErrsAt Hm (csOf C) x6 v ∧ Hm L7 = some (.lst x7) ∧ ErrsAt Hm (csOf C) x7 v ∧ Hm L = some (.lst [.ref p]) := by
        intro Hm M off hM
        refine ⟨off _ _ h6C fun m => ?_, g6C.offM off fun m hm => (hM m hm).1, off _ _ h7C fun m => ?_, g7C.offM off fun m hm => (hM m hm).1, off _ _ hLC fun m => (hM L m).2.2 rfl⟩
        · obtain ⟨_, ⟨o, e⟩, _⟩ := hM _ m
          rw [nL6] at e
          cases e
        · obtain ⟨_, ⟨o, e⟩, _⟩ := hM _ m
          have e5 := s5 _ _ e
          rw [nL7] at e5
          cases e5
      have wz := w_small hz
      have cz := isW_codes hz
      have wl : ("later" : Str).length = 5 := by decide
      have wL : ("LATER" : Str).length = 5 := by decide
      have wo : ("odd" : Str).length = 3 := by decide
      cases th4 with
      | non =>
        have zf := fin HC [] (fun b o e _ => e) (fun m hm => nomatch hm)
        obtain ⟨d', sh'⟩ := (.non : Thing HC z _).shows hz
        refine seq_isi rfl (.base .non) (by decide +kernel) (iteF ?_)
        refine seq_isi rfl (.base .non) (by decide +kernel) (iteF ?_)
        refine seq_isi2 rfl (.base .non) (by decide +kernel) (iteF ?_)
        exact both_right rfl rfl rfl zf.1 zf.2.1 zf.2.2.1 zf.2.2.2.1 sh' fun H' s' => ⟨_, _, _, _, _, _, _, _, _, _, rfl, s' _ _ zf.2.2.2.2, fun e => by cases e⟩
      | bl b =>
        have zf := fin HC [] (fun b o e _ => e) (fun m hm => nomatch hm)
        obtain ⟨d', sh'⟩ := (.bl b : Thing HC z _).shows hz
        refine seq_isi rfl (.base (.bl b)) (by decide +kernel) (iteF ?_)
        refine seq_isi rfl (.base (.bl b)) (by decide +kernel) (iteF ?_)
        refine seq_isi2 rfl (.base (.bl b)) (by decide +kernel) (iteF ?_)
        exact both_right rfl rfl rfl zf.1 zf.2.1 zf.2.2.1 zf.2.2.2.1 sh' fun H' s' => ⟨_, _, _, _, _, _, _, _, _, _, rfl, s' _ _ zf.2.2.2.2, fun e => by cases e⟩
      | int i h =>
        have zf := fin HC [] (fun b o e _ => e) (fun m hm => nomatch hm)
        obtain ⟨d', sh'⟩ := (.int i h : Thing HC z _).shows hz
        refine seq_isi rfl (.base (.int i)) (by decide +kernel) (iteF ?_)
        refine seq_isi rfl (.base (.int i)) (by decide +kernel) (iteF ?_)
        refine seq_isi2 rfl (.base (.int i)) (by decide +kernel) (iteF ?_)
        exact both_right rfl rfl rfl zf.1 zf.2.1 zf.2.2.1 zf.2.2.2.1 sh' fun H' s' => ⟨_, _, _, _, _, _, _, _, _, _, rfl, s' _ _ zf.2.2.2.2, fun e => by cases e⟩
      | str =>
        have zf := fin HC [] (fun b o e _ => e) (fun m hm => nomatch hm)
        obtain ⟨d', sh'⟩ := (.str : Thing HC z _).shows hz
        refine seq_isi rfl (.base (.str z)) (by decide +kernel) (iteF ?_)
        refine seq_isi rfl (.base (.str z)) (by decide +kernel) (iteF ?_)
        refine seq_isi2 rfl (.base (.str z)) (by decide +kernel) (iteF ?_)
        exact both_right rfl rfl rfl zf.1 zf.2.1 zf.2.2.1 zf.2.2.2.1 sh' fun H' s' => ⟨_, _, _, _, _, _, _, _, _, _, rfl, s' _ _ zf.2.2.2.2, fun e => by cases e⟩
      | t1 h0 =>
        have h := s4C _ _ h0
        have zf := fin HC [] (fun b o e _ => e) (fun m hm => nomatch hm)
        obtain ⟨d', sh'⟩ := (.t1 h : Thing HC z _).shows hz
        refine seq_isi rfl (.base (.tup h)) (by decide +kernel) (iteF ?_)
        refine seq_isi rfl (.base (.tup h)) (by decide +kernel) (iteF ?_)
        refine seq_isi2 rfl (.base (.tup h)) (by decide +kernel) (iteT ?_)
        refine ⟨_, rfl, _, _, _, _, rfl, rfl, SqT.of h, atI_nat (j := 1) rfl, _, _, _, _, false, rfl, .ty "list", .base (.str z), kit_ty (by decide +kernel), false, rfl, iteF ?_⟩
        exact both_right rfl rfl rfl zf.1 zf.2.1 zf.2.2.1 zf.2.2.2.1 sh' fun H' s' => ⟨_, _, _, _, _, _, _, _, _, _, rfl, s' _ _ zf.2.2.2.2, fun e => by cases e⟩
      | t2 h0 h0' n =>
        rename_i ta tb
        have h := s4C _ _ h0
        have h' := s4C _ _ h0'
        have zf := fin (upd HC tb (.lst [.str z, .str "later"])) [tb] (fun b o e m => by rw [upd_ne (fun q => m (by rw [q]; exact List.mem_cons_self ..))]; exact e) (fun m hm => by
          obtain rfl := List.mem_singleton.mp hm
          exact ⟨.inl ⟨_, h'⟩, ⟨_, h0'⟩, ne_of h' hLC (by intro e; cases e)⟩)
        have nab : ta ≠ tb := ne_of h h' (by intro e; cases e)
        have sh' : Shows (upd HC tb (.lst [.str z, .str "later"])) (.ref ta) (.tuple [.str z, .list [.str z, .str "later"]]) := by
          refine shows_of (.tup (by rw [upd_ne nab]; exact h) (.cons (.str _) (.cons (.lst upd_same n (.cons (.str _) (.cons (.str _) .nil))) .nil))) rfl ⟨cz, ⟨cz, codes_later, trivial⟩, trivial⟩ ?_ (by show 2 ≤ 60; decide)
          show (10 * z.length + 2) + 2 + (((10 * z.length + 2) + 2 + ((10 * ("later" : Str).length + 2) + 2 + 0) + 2) + 2 + 0) + 3 ≤ 16777216
          omega
        refine seq_isi rfl (.base (.tup h)) (by decide +kernel) (iteF ?_)
        refine seq_isi rfl (.base (.tup h)) (by decide +kernel) (iteF ?_)
        refine seq_isi2 rfl (.base (.tup h)) (by decide +kernel) (iteT ?_)
        refine ⟨_, rfl, _, _, _, _, rfl, rfl, SqT.of h, atI_nat (j := 1) rfl, _, _, _, _, true, rfl, .ty "list", .base (.lst h'), kit_ty (by decide +kernel), true, rfl, iteT ?_⟩
        refine ⟨_, rfl, _, _, _, _, rfl, rfl, SqT.of h, atI_nat (j := 1) rfl, .inl ⟨rfl, _, SqL.of h'⟩, tb, _, _, rfl, rfl, h', small1000 (by show 1 ≤ 1000; decide), ?_⟩
        exact both_right rfl rfl rfl zf.1 zf.2.1 zf.2.2.1 zf.2.2.2.1 sh' fun H' s' => ⟨_, _, _, _, _, _, _, _, _, _, rfl, s' _ _ zf.2.2.2.2, fun e => by cases e⟩
      | dc h0 h0' n =>
        rename_i da db
        have h := s4C _ _ h0
        have h' := s4C _ _ h0'
        have nab : da ≠ db := ne_of h h' (by intro e; cases e)
        have vn : valV [((Sum.inr z : Key), V.ref db)] (Sum.inr ("LATER" : Str)) = none := by
          rw [valV_neg (not_LATER hz)]
          rfl
        have zf := fin (upd (upd HC db (.lst [.str z, .str "later"])) da (.dK (putK [((Sum.inr z : Key), V.ref db)] (Sum.inr ("LATER" : Str)) (.int 1)))) [da, db] (fun b o e m => by
            rw [upd_ne (fun q => m (by rw [q]; exact List.mem_cons_self ..)), upd_ne (fun q => m (by rw [q]; exact List.mem_cons_of_mem _ (List.mem_cons_self ..)))]
            exact e) (fun m hm => by
          rcases List.mem_cons.mp hm with q | q
          · rw [q]
            exact ⟨.inr ⟨_, h⟩, ⟨_, h0⟩, ne_of h hLC (by intro e; cases e)⟩
          · rw [List.mem_singleton.mp q]
            exact ⟨.inl ⟨_, h'⟩, ⟨_, h0'⟩, ne_of h' hLC (by intro e; cases e)⟩)
        have sh' : Shows (upd (upd HC db (.lst [.str z, .str "later"])) da (.dK (putK [((Sum.inr z : Key), V.ref db)] (Sum.inr ("LATER" : Str)) (.int 1)))) (.ref da) (.dict [(.str z, .list [.str z, .str "later"]), (.str "LATER", .int 1)]) := by
          rw [putK_new _ vn]
          refine shows_of (.dic (kvs := [(z, .ref db), ("LATER", .int 1)]) upd_same (.cons (.lst (by rw [upd_ne nab.symm, upd_same]) n (.cons (.str _) (.cons (.str _) .nil))) (.cons (.int _) .nil))) (by show ((true && (true && (true && true))) && (true && decide ((1 : Int).natAbs.log2 < 1920) && true)) = true; decide +kernel) ⟨cz, ⟨cz, codes_later, trivial⟩, codes_LATER, trivial, trivial⟩ ?_ (by show 2 ≤ 60; decide)
          show (10 * z.length + 2) + ((10 * z.length + 2) + 2 + ((10 * ("later" : Str).length + 2) + 2 + 0) + 2) + 4 + ((10 * ("LATER" : Str).length + 2) + 1921 + 4 + 0) + 2 ≤ 16777216
          omega
        refine seq_isi rfl (.base (.dK h)) (by decide +kernel) (iteF ?_)
        refine seq_isi rfl (.base (.dK h)) (by decide +kernel) (iteT ?_)
        refine ⟨_, rfl, _, rfl, da, _, rfl, (show DGet HC da (.str z) (some (.ref db)) from by have g := DGet.k (k := Sum.inr z) h; rw [valV_pos rfl] at g; exact g), .inl ⟨rfl, _, SqL.of h'⟩, db, _, _, rfl, rfl, h', small1000 (by show 1 ≤ 1000; decide), ?_⟩
        refine ⟨_, rfl, da, _, rfl, DPut.k (k := Sum.inr ("LATER" : Str)) (by rw [upd_ne nab]; exact h) (small1000 (by show 1 ≤ 1000; decide)), ?_⟩
        refine seq_isi2 rfl (.base (.dK upd_same)) (by decide +kernel) (iteF ?_)
        exact both_right rfl rfl rfl zf.1 zf.2.1 zf.2.2.1 zf.2.2.2.1 sh' fun H' s' => ⟨_, _, _, _, _, _, _, _, _, _, rfl, s' _ _ zf.2.2.2.2, fun e => by cases e⟩
      | l1 h0 n =>
        rename_i tb
        have h := s4C _ _ h0
        have zf := fin (upd HC tb (.lst [.str z, .str "later"])) [tb] (fun b o e m => by rw [upd_ne (fun q => m (by rw [q]; exact List.mem_cons_self ..))]; exact e) (fun m hm => by
          obtain rfl := List.mem_singleton.mp hm
          exact ⟨.inl ⟨_, h⟩, ⟨_, h0⟩, ne_of h hLC (by intro e; cases e)⟩)
        have sh' : Shows (upd HC tb (.lst [.str z, .str "later"])) (.ref tb) (.list [.str z, .str "later"]) := by
          refine shows_of (.lst upd_same n (.cons (.str _) (.cons (.str _) .nil))) rfl ⟨cz, codes_later, trivial⟩ ?_ (by show 1 ≤ 60; decide)
          show (10 * z.length + 2) + 2 + ((10 * ("later" : Str).length + 2) + 2 + 0) + 2 ≤ 16777216
          omega
        refine seq_isi rfl (.base (.lst h)) (by decide +kernel) (iteT ?_)
        refine ⟨_, rfl, .inl ⟨rfl, _, SqL.of h⟩, tb, _, _, rfl, rfl, h, small1000 (by show 1 ≤ 1000; decide), ?_⟩
        refine seq_isi rfl (.base (.lst upd_same)) (by decide +kernel) (iteF ?_)
        refine seq_isi2 rfl (.base (.lst upd_same)) (by decide +kernel) (iteF ?_)
        exact both_right rfl rfl rfl zf.1 zf.2.1 zf.2.2.1 zf.2.2.2.1 sh' fun H' s' => ⟨_, _, _, _, _, _, _, _, _, _, rfl, s' _ _ zf.2.2.2.2, fun e => by cases e⟩
      | l2 h0 n h0' n' h0'' =>
        rename_i ta tb tc
        have h := s4C _ _ h0
        have h' := s4C _ _ h0'
        have h'' := s4C _ _ h0''
        have nba : tb ≠ ta := ne_of h' h (by intro e; cases e)
        have nca : tc ≠ ta := ne_of h'' h (by intro e; cases e)
        have zf := fin (upd HC ta (.lst [.ref tb, .ref tc, .str "later"])) [ta] (fun b o e m => by rw [upd_ne (fun q => m (by rw [q]; exact List.mem_cons_self ..))]; exact e) (fun m hm => by
          obtain rfl := List.mem_singleton.mp hm
          exact ⟨.inl ⟨_, h⟩, ⟨_, h0⟩, ne_of h hLC (by intro e; cases e)⟩)
        have sh' : Shows (upd HC ta (.lst [.ref tb, .ref tc, .str "later"])) (.ref ta) (.list [.list [.str z], .dict [(.str "odd", .str z)], .str "later"]) := by
          refine shows_of (.lst upd_same n (.cons (.lst (by rw [upd_ne nba]; exact h') n' (.cons (.str _) .nil)) (.cons (.dic (kvs := [("odd", _)]) (by rw [upd_ne nca]; exact h'') (.cons (.str _) .nil)) (.cons (.str _) .nil)))) rfl ⟨⟨cz, trivial⟩, ⟨codes_odd, cz, trivial⟩, codes_later, trivial⟩ ?_ (by show 2 ≤ 60; decide)
          show ((10 * z.length + 2) + 2 + 0 + 2) + 2 + (((10 * ("odd" : Str).length + 2) + (10 * z.length + 2) + 4 + 0 + 2) + 2 + ((10 * ("later" : Str).length + 2) + 2 + 0)) + 2 ≤ 16777216
          omega
        refine seq_isi rfl (.base (.lst h)) (by decide +kernel) (iteT ?_)
        refine ⟨_, rfl, .inl ⟨rfl, _, SqL.of h⟩, ta, _, _, rfl, rfl, h, small1000 (by show 2 ≤ 1000; decide), ?_⟩
        refine seq_isi rfl (.base (.lst upd_same)) (by decide +kernel) (iteF ?_)
        refine seq_isi2 rfl (.base (.lst upd_same)) (by decide +kernel) (iteF ?_)
        exact both_right rfl rfl rfl zf.1 zf.2.1 zf.2.2.1 zf.2.2.2.1 sh' fun H' s' => ⟨_, _, _, _, _, _, _, _, _, _, rfl, s' _ _ zf.2.2.2.2, fun e => by cases e⟩
    · rintro σ H' ⟨v1, v2, v3, v4, v5, v6, v7, v8, v9, v10, rfl, _, _⟩
      have f1 : ∀ {n : Nat}, n ≤ 100 → n ≤ sizeLine := few_line
      refine fun e1 ne1 e2 ne2 => ⟨f1 (by show 2 ≤ 100; decide), fun M nM => ?_⟩
      have S1 : Same H' (upd (upd (upd H' e1 (ExO (.ref (C 21)) e1)) e2 (ExO (.ref (C 22)) e2)) M (.lst [.ref e1, .ref e2])) := ((same_upd ne1).trans (same_upd ne2)).trans (same_upd nM)
      have I1 : IsErr (upd (upd (upd H' e1 (ExO (.ref (C 21)) e1)) e2 (ExO (.ref (C 22)) e2)) M (.lst [.ref e1, .ref e2])) (C 21) e1 := .inr (((same_upd ne2).trans (same_upd nM)) _ _ upd_same)
      have I2 : IsErr (upd (upd (upd H' e1 (ExO (.ref (C 21)) e1)) e2 (ExO (.ref (C 22)) e2)) M (.lst [.ref e1, .ref e2])) (C 22) e2 := .inr ((same_upd nM) _ _ upd_same)
      have hM : (upd (upd (upd H' e1 (ExO (.ref (C 21)) e1)) e2 (ExO (.ref (C 22)) e2)) M (.lst [.ref e1, .ref e2])) M = some (.lst [.ref e1, .ref e2]) := upd_same
      generalize upd (upd (upd H' e1 (ExO (.ref (C 21)) e1)) e2 (ExO (.ref (C 22)) e2)) M (.lst [.ref e1, .ref e2]) = B1 at *
      -- their classes
      refine ⟨_, rfl, M, rfl, ⟨_, SqL.of hM⟩, fun D1 nD1 => lc_list (K := K) (a := M) (xs := [.ref e1, .ref e2]) (fun i Hx => Same B1 Hx ∧ ((i = 0 ∧ Hx D1 = some (.lst [])) ∨ (i = 1 ∧ ∃ r, r ≠ D1 ∧ Hx D1 = some (.lst [.ref r]) ∧ Hx r = some (.lst [.int 21])) ∨
        (i = 2 ∧ ∃ r t, r ≠ D1 ∧ t ≠ D1 ∧ Hx D1 = some (.lst [.ref r, .ref t]) ∧ Hx r = some (.lst [.int 21]) ∧ Hx t = some (.lst [.int 22])))) ⟨same_upd nD1, .inl ⟨rfl, upd_same⟩⟩ (fun i Hx _ h => SqL.of (h.1 _ _ hM)) ?_ ?_⟩
      · rintro i x Hx hx ⟨sx, c⟩
        have keep : ∀ {H2 : Hp} {o : HO}, Same Hx H2 → Same B1 (upd H2 D1 o) := fun s2 b o e => by
          rw [upd_ne (ne_of_none e nD1)]
          exact s2 _ _ (sx _ _ e)
        rcases c with ⟨rfl, hD⟩ | ⟨rfl, r, nr, hD, hr1⟩ | ⟨rfl, _⟩
        · obtain rfl : V.ref e1 = x := by simpa using hx
          refine ⟨rfl, _, rfl, e1, C 21, fun j => decide (21 = j), rfl, I1.same sx, D.ex 21 (by decide), fun j hj => D.kit 21 j (by decide) hj, fun H2 L2 s2 nL2 h2 => ⟨[], s2 _ _ hD, by decide, keep s2, .inr (.inl ⟨rfl, L2, (ne_of_none hD nL2).symm, upd_same, ?_⟩)⟩⟩
          rw [upd_ne (ne_of_none hD nL2).symm, h2, only_i (by decide : 21 < 23)]
          rfl
        · obtain rfl : V.ref e2 = x := by simpa using hx
          refine ⟨rfl, _, rfl, e2, C 22, fun j => decide (22 = j), rfl, I2.same sx, D.ex 22 (by decide), fun j hj => D.kit 22 j (by decide) hj, fun H2 L2 s2 nL2 h2 => ⟨_, s2 _ _ hD, small1000 (by show 1 ≤ 1000; decide), keep s2, .inr (.inr ⟨rfl, r, L2, nr, (ne_of_none hD nL2).symm, upd_same, ?_, ?_⟩)⟩⟩
          · rw [upd_ne nr]
            exact s2 _ _ hr1
          · rw [upd_ne (ne_of_none hD nL2).symm, h2, only_i (by decide : 22 < 23)]
            rfl
        · simp at hx
      rintro B2 ⟨s2, c⟩
      rcases c with ⟨z, _⟩ | ⟨z, _⟩ | ⟨_, r, t, nr, nt, hD, hr1', ht⟩
      · cases z
      · cases z
      refine ⟨by decide, fun q1 nq1 => ⟨by decide, fun q2 nq2 => ⟨f1 (by show 2 ≤ 100; decide), fun q3 nq3 => ?_⟩⟩⟩
      have S3 := ((same_upd (o := .lst [.int 21]) nq1).trans (same_upd (o := .lst [.int 22]) nq2)).trans (same_upd (o := .lst [.ref q1, .ref q2]) nq3)
      have ee : PyData.eqv (.list [.list [.int 21], .list [.int 22]]) (.list [.list [.int 21], .list [.int 22]]) = true := by decide +kernel
      refine ⟨.list [.list [.int 21], .list [.int 22]], .list [.list [.int 21], .list [.int 22]], .lst (SqL.of (S3 _ _ hD)) (.cons (.lst (SqL.of (S3 _ _ hr1')) (.cons (.int _) .nil)) (.cons (.lst (SqL.of (S3 _ _ ht)) (.cons (.int _) .nil)) .nil)),
        .lst (SqL.of upd_same) (.cons (.lst (SqL.of ((same_upd nq3) _ _ ((same_upd nq2) _ _ upd_same))) (.cons (.int _) .nil)) (.cons (.lst (SqL.of ((same_upd nq3) _ _ upd_same)) (.cons (.int _) .nil)) .nil)), by decide +kernel, by decide +kernel, _, rfl, ?_⟩
      rw [ee]
      refine iteF ?_
      have S13 := s2.trans S3
      have hM3 := S13 _ _ hM
      have I1' := I1.same S13
      have I2' := I2.same S13
      generalize upd (upd (upd B2 q1 (.lst [.int 21])) q2 (.lst [.int 22])) q3 (.lst [.ref q1, .ref q2]) = B3 at *
      -- the base
      refine ⟨_, rfl, .inl ⟨rfl, _, SqL.of hM3⟩, fun e3 ne3 => ?_⟩
      have hM4 := (same_upd (o := ExO (.ref B0) e3) ne3) _ _ hM3
      refine ⟨M, _, _, rfl, rfl, hM4, small1000 (by show 2 ≤ 1000; decide), ?_⟩
      have off : ∀ {E e : Addr}, IsErr (upd B3 e3 (ExO (.ref B0) e3)) E e → IsErr (upd (upd B3 e3 (ExO (.ref B0) e3)) M (.lst [.ref e1, .ref e2, .ref e3])) E e := fun {E e} h => by
        have no : ∀ {b : Addr} {φ : Heap → Prop}, (upd B3 e3 (ExO (.ref B0) e3)) b = some (.ext φ) → b ≠ M := fun q => ne_of q hM4 (by intro z; cases z)
        rcases h with ⟨d, fs, h1, h2⟩ | h
        · exact .inl ⟨d, fs, by rw [upd_ne (no h1)]; exact h1, by rw [upd_ne (no h2)]; exact h2⟩
        · exact .inr (by rw [upd_ne (no h)]; exact h)
      have J1 := off (I1'.same (same_upd ne3))
      have J2 := off (I2'.same (same_upd ne3))
      have J3 := off (E := B0) (e := e3) (.inr upd_same)
      have hM5 : (upd (upd B3 e3 (ExO (.ref B0) e3)) M (.lst [.ref e1, .ref e2, .ref e3])) M = some (.lst [.ref e1, .ref e2, .ref e3]) := upd_same
      refine ⟨_, rfl, M, rfl, ⟨_, SqL.of hM5⟩, fun D2 nD2 => lc_list (K := K) (a := M) (xs := [.ref e1, .ref e2, .ref e3]) (fun i Hx => Same (upd (upd B3 e3 (ExO (.ref B0) e3)) M (.lst [.ref e1, .ref e2, .ref e3])) Hx ∧ Hx D2 = some (.lst ((List.replicate i true).map V.bl)))
        ⟨same_upd nD2, upd_same⟩ (fun i Hx _ h => SqL.of (h.1 _ _ hM5)) ?_ ?_⟩
      · rintro i x Hx hx ⟨sx, hD⟩
        have keepD : ∀ {o : HO}, Same (upd (upd B3 e3 (ExO (.ref B0) e3)) M (.lst [.ref e1, .ref e2, .ref e3])) (upd Hx D2 o) := fun {o} b u q => by
          rw [upd_ne (ne_of_none q nD2)]
          exact sx _ _ q
        match i, hx, hD with
        | 0, hx, hD =>
          obtain rfl := Option.some.inj hx
          exact ⟨rfl, _, rfl, e1, C 21, rfl, J1.same sx, D.ex 21 (by decide), D.ph 21 (by decide), D.ve 21 (by decide), _, hD, small1000 (by show 0 ≤ 1000; decide), keepD, by rw [upd_same, List.replicate_succ', List.map_append]; rfl⟩
        | 1, hx, hD =>
          obtain rfl := Option.some.inj hx
          exact ⟨rfl, _, rfl, e2, C 22, rfl, J2.same sx, D.ex 22 (by decide), D.ph 22 (by decide), D.ve 22 (by decide), _, hD, small1000 (by show 1 ≤ 1000; decide), keepD, by rw [upd_same, List.replicate_succ', List.map_append]; rfl⟩
        | 2, hx, hD =>
          obtain rfl := Option.some.inj hx
          exact ⟨rfl, _, rfl, e3, B0, rfl, J3.same sx, D.ex0, D.ph0, D.ve0, _, hD, small1000 (by show 2 ≤ 1000; decide), keepD, by rw [upd_same, List.replicate_succ', List.map_append]; rfl⟩
        | n + 3, hx, hD => exact absurd hx (by simp)
      rintro B6 ⟨s6, hD⟩
      refine ⟨D2, [true, true, true], rfl, SqL.of hD, true, rfl, iteT ?_⟩
      refine ⟨_, rfl, M, _, _, _, rfl, rfl, SqL.of (s6 _ _ hM5), atI_nat (j := 2) rfl, e3, B0, fun _ => false, rfl, J3.same s6, D.ex0, D.kit0, fun B7 L7 s7 nL7 h7 => ⟨by decide, fun q nq => ?_⟩⟩
      have ez : PyData.eqv (.list []) (.list []) = true := by decide +kernel
      have h7' : B7 L7 = some (.lst []) := by
        rw [h7]
        rfl
      refine ⟨.list [], .list [], .lst (SqL.of ((same_upd nq) _ _ h7')) .nil, .lst (SqL.of upd_same) .nil, rfl, rfl, ?_⟩
      rw [ez]
      exact k _
end
end K1

namespace K1
open PySem PySem.Spec PyProof.Rows L2
open PySem.W (Frag)
section
variable {K : Frag} {h : Heap} {mg : Str → Option Value}
theorem top_mk {x : Str} {st : Stmt} {ps : List Str} {f : Addr} {od an : Option Addr} {sl : Array (Option Value)} {oc kV dc pm cd ct : Value} (X : K.In h) (G : h.Ns mainGlobals mg) (a : PySem.W.nsIn K mainGlobals x = some (some (.ref f)))
    (l : K.lookup f = some ⟨oc, od, .func (PySem.W.fnOf x x (defArgs st) (defBody st) (defScope st) .none kV dc pm an cd ct), sl⟩) (c : PySem.W.codeIn K cd x = true) (k : PySem.W.keepIn K (.ref f) = true)
    (b : ∀ (kV doc pm : Value) (an : Option Addr) (cdv ct : Value) (us : List Value), us.length = ps.length → bindArgs (PySem.W.fnOf x x (defArgs st) (defBody st) (defScope st) .none kV doc pm an cdv ct) ⟨us, []⟩ = pure (ps.zip us)) :
    Top K mg x st ps f (PySem.W.fnOf x x (defArgs st) (defBody st) (defScope st) .none kV dc pm an cd ct) := by
  have F := fun_mk (x := x) (qual := x) (st := st) l c k
  exact ⟨F, PySem.W.mg_of X G a, F.binds b⟩
theorem err_mk {x nm q qI : Str} {C N fI T : Addr} {bs bm : List Value} {sn : List Str} {sub : List Value} {ab : Bool} {col : Option Bool} {dd : Option Addr} {m0 m1 m2 m3 m5 : Option Value} {od an oT : Option Addr} {sl sT : Array (Option Value)} {oc kV dc pm cd ct cT : Value} {p1 p2 p3 q1 q2 q3 q4 : Pos} {n : Nat}
    (X : K.In h) (G : h.Ns mainGlobals mg) (aC : PySem.W.nsIn K mainGlobals x = some (some (.ref C))) (xL : K.lookup C = some (excClassObj nm q C N bs bm true sn sub ab col dd m0 m1 m2 m3 m5 "ValueError.__new__"))
    (iC : PySem.W.findIn K (.ref C) "__init__" = some (some (.ref fI))) (lI : K.lookup fI = some ⟨oc, od, .func (PySem.W.fnOf "__init__" qI (eA p1 p2 p3) (eB q1 q2 q3 q4) eS (.ref T) kV dc pm an cd ct), sl⟩) (cI : PySem.W.codeIn K cd qI = true)
    (lT : K.lookup T = some ⟨cT, oT, .seq #[.none] n, sT⟩) (hbm : PySem.HandSPX.refsVE bm = true)
    (sa : PySem.W.findIn K (.ref C) "__setattr__" = some (some (.builtin "object.__setattr__"))) (tC : PySem.W.typeIn K (.ref C) = some (.type "type")) (kC : PySem.W.keepIn K (.ref C) = true) (tI : PySem.W.typeIn K (.ref fI) = some (.type "function"))
    (no : PySem.W.findIn K (.ref C) "value" = some none) (xf : XfC K C) : ErrC K mg x C fI where
  gC := PySem.W.mg_of X G aC
  ox := ⟨⟨nm, q, N, bs, bm, sn, sub, ab, col, dd, m0, m1, m2, m3, m5, xL, hbm⟩, sa, xf.exC, tC, kC⟩
  ga := xf.ga
  gg := xf.gg
  hd := xf.hdC
  noN := no
  iC := iC
  tI := tI
  fn := ⟨oc, od, kV, dc, pm, an, cd, ct, sl, p1, p2, p3, q1, q2, q3, q4, qI, T, _, n, lI, cI, lT, rfl⟩
theorem bare_mk {x : Str} {C : Addr} (X : K.In h) (G : h.Ns mainGlobals mg) (aC : PySem.W.nsIn K mainGlobals x = some (some (.ref C))) (q : PySem.W.excIn K C [.type "ValueError", .type "Exception", .type "BaseException", .type "object"] "ValueError.__new__" = true) (k : PySem.W.keepIn K (.ref C) = true) : Bare K mg x C := ⟨PySem.W.mg_of X G aC, q, k⟩
/-- what isinstance asks of a class of errors, by reckoning -/
def excB (K : Frag) (C : Addr) : Bool := xfB K C && (decide (PySem.W.findIn K (.ref C) "__class__" = some (some (.builtin "object.__class__"))) && (decide (PySem.W.specialIn K (.builtin "object.__class__") "__get__" = some (some (.builtin "getset_descriptor.__get__"))) &&
  (decide (PySem.W.takesIn K (.builtin "object.__class__") = some true) && decide (PySem.W.mroIn K C (.type "object") = some true))))
theorem excB_ok {C : Addr} (e : excB K C = true) : XfC K C ∧ ExcC K C := by
  obtain ⟨h1, e⟩ := Bool.and_eq_true_iff.mp e
  obtain ⟨h2, e⟩ := Bool.and_eq_true_iff.mp e
  obtain ⟨h3, e⟩ := Bool.and_eq_true_iff.mp e
  obtain ⟨h4, h5⟩ := Bool.and_eq_true_iff.mp e
  have x := xfB_ok h1
  exact ⟨x, ⟨x.ga, x.gg, x.exC, x.hdC, of_decide_eq_true h2, of_decide_eq_true h3, of_decide_eq_true h4, of_decide_eq_true h5⟩⟩
def cAt (l : List Addr) (i : Nat) : Addr := l.getD i 0
/-- all that is asked of the classes l and of their base B0 -/
def kindsB (K : Frag) (l : List Addr) (B0 : Addr) : Bool := (List.range 23).all fun i => excB K (cAt l i) && (decide (PySem.W.kitOne K (.ref (cAt l i)) (.ref B0) = some true) && (decide (PySem.W.kitOne K (.ref (cAt l i)) (.type "ValueError") = some true) &&
  (decide (PySem.W.kitOne K (.ref B0) (.ref (cAt l i)) = some false) && (List.range 23).all fun j => decide (PySem.W.kitOne K (.ref (cAt l i)) (.ref (cAt l j)) = some (decide (i = j))))))
theorem kinds_mk {l : List Addr} {B0 : Addr} {I : Nat → Addr} (_R : Errs K mg (cAt l) I) (_b : Bare K mg "PhraseError" B0) (e : kindsB K l B0 = true) (e0 : (excB K B0 && (decide (PySem.W.kitOne K (.ref B0) (.ref B0) = some true) && decide (PySem.W.kitOne K (.ref B0) (.type "ValueError") = some true))) = true)
    (no : ∀ i, i < 21 → PySem.W.findIn K (.ref (cAt l i)) "value" = some none) : Kinds K (cAt l) B0 := by
  have at_ : ∀ i, i < 23 → _ := fun i hi => List.all_eq_true.mp e i (List.mem_range.mpr hi)
  obtain ⟨z1, e0⟩ := Bool.and_eq_true_iff.mp e0
  obtain ⟨z2, z3⟩ := Bool.and_eq_true_iff.mp e0
  have sp : ∀ i, i < 23 → excB K (cAt l i) = true ∧ PySem.W.kitOne K (.ref (cAt l i)) (.ref B0) = some true ∧ PySem.W.kitOne K (.ref (cAt l i)) (.type "ValueError") = some true ∧ PySem.W.kitOne K (.ref B0) (.ref (cAt l i)) = some false ∧
      ∀ j, j < 23 → PySem.W.kitOne K (.ref (cAt l i)) (.ref (cAt l j)) = some (decide (i = j)) := fun i hi => by
    obtain ⟨h1, a⟩ := Bool.and_eq_true_iff.mp (at_ i hi)
    obtain ⟨h2, a⟩ := Bool.and_eq_true_iff.mp a
    obtain ⟨h3, a⟩ := Bool.and_eq_true_iff.mp a
    obtain ⟨h4, h5⟩ := Bool.and_eq_true_iff.mp a
    exact ⟨h1, of_decide_eq_true h2, of_decide_eq_true h3, of_decide_eq_true h4, fun j hj => of_decide_eq_true (List.all_eq_true.mp h5 j (List.mem_range.mpr hj))⟩
  exact ⟨fun i hi => (excB_ok (sp i hi).1).2, fun i j hi hj => (sp i hi).2.2.2.2 j hj, fun i hi => (sp i hi).2.1, fun i hi => (sp i hi).2.2.1, no, fun i hi => (excB_ok (sp i (by omega)).1).1, (excB_ok z1).2, fun j hj => (sp j hj).2.2.2.1, of_decide_eq_true z2, of_decide_eq_true z3⟩
end
theorem errs_mk {K : Frag} {mg : Str → Option Value} {C0 C1 C2 C3 C4 C5 C6 C7 C8 C9 C10 C11 C12 C13 C14 C15 C16 C17 C18 C19 C20 C21 C22 I0 I1 I2 I3 I4 I5 I6 I7 I8 I9 I10 I11 I12 I13 I14 I15 I16 I17 I18 I19 I20 : Addr} (c0 : ErrC K mg "InvalidKind" C0 I0) (c1 : ErrC K mg "InvalidRow" C1 I1) (c2 : ErrC K mg "InvalidPlains" C2 I2) (c3 : ErrC K mg "InvalidMap" C3 I3) (c4 : ErrC K mg "InvalidCount" C4 I4) (c5 : ErrC K mg "InvalidPlace" C5 I5) (c6 : ErrC K mg "InvalidDerivation" C6 I6) (c7 : ErrC K mg "InvalidLetters" C7 I7) (c8 : ErrC K mg "InvalidWord" C8 I8) (c9 : ErrC K mg "InvalidTurns" C9 I9) (c10 : ErrC K mg "InvalidChain" C10 I10) (c11 : ErrC K mg "InvalidWorld" C11 I11) (c12 : ErrC K mg "InvalidTable" C12 I12) (c13 : ErrC K mg "InvalidLots" C13 I13) (c14 : ErrC K mg "InvalidBook" C14 I14) (c15 : ErrC K mg "InvalidSentence" C15 I15) (c16 : ErrC K mg "InvalidDesk" C16 I16) (c17 : ErrC K mg "InvalidScript" C17 I17) (c18 : ErrC K mg "InvalidPaper" C18 I18) (c19 : ErrC K mg "InvalidRecord" C19 I19) (c20 : ErrC K mg "Refused" C20 I20) (g21 : mg "NothingToUndo" = some (.ref C21)) (g22 : mg "NothingToRedo" = some (.ref C22)) : Errs K mg (cAt [C0, C1, C2, C3, C4, C5, C6, C7, C8, C9, C10, C11, C12, C13, C14, C15, C16, C17, C18, C19, C20, C21, C22]) (cAt [I0, I1, I2, I3, I4, I5, I6, I7, I8, I9, I10, I11, I12, I13, I14, I15, I16, I17, I18, I19, I20]) := ⟨c0, c1, c2, c3, c4, c5, c6, c7, c8, c9, c10, c11, c12, c13, c14, c15, c16, c17, c18, c19, c20, g21, g22⟩
theorem no_mk {K : Frag} {mg : Str → Option Value} {C I : Nat → Addr} (R : Errs K mg C I) : ∀ i, i < 21 → PySem.W.findIn K (.ref (C i)) "value" = some none
  | 0, _ => R.e0.noN
  | 1, _ => R.e1.noN
  | 2, _ => R.e2.noN
  | 3, _ => R.e3.noN
  | 4, _ => R.e4.noN
  | 5, _ => R.e5.noN
  | 6, _ => R.e6.noN
  | 7, _ => R.e7.noN
  | 8, _ => R.e8.noN
  | 9, _ => R.e9.noN
  | 10, _ => R.e10.noN
  | 11, _ => R.e11.noN
  | 12, _ => R.e12.noN
  | 13, _ => R.e13.noN
  | 14, _ => R.e14.noN
  | 15, _ => R.e15.noN
  | 16, _ => R.e16.noN
  | 17, _ => R.e17.noN
  | 18, _ => R.e18.noN
  | 19, _ => R.e19.noN
  | 20, _ => R.e20.noN
  | n + 21, h => absurd h (by omega)
theorem walk {l : PySem.W.OpenLaw} {q : Program} {loose : List Str} {XP : (Str → Option Value) → Heap → Prop} {YP : World → Heap → Prop} {d : DefRec} {K : Params → PySem.W.Frag} (hn : l.most = some 63) (hdf : d.params.defaults = [])
    (hY : ∀ (w : World) (h : Heap), YP w h → (K w.params).In h)
    (F : ∀ (w : World) (mg : Str → Option Value) (fa : Addr) (h : Heap), (K w.params).In h → h.Ns mainGlobals mg → mg d.name = some (.ref fa) →
      ∃ fd : FuncData, (∀ (s : Shared) (u : Value), BindsTo s fd ⟨[u], []⟩ [("_law_script", u)]) ∧ ∀ base : Heap, (K w.params).In base → base.Ns mainGlobals mg → FnG l.prog w (K w.params) mg base 5 fa fd ["_law_script"] (spLaw (K w.params))) :
    PySem.W.WalkO q loose XP YP l.row.toRowW d [] (fun f vs => PySem.call f vs) :=
  walk_gn (n := 63) (k := 5) (x := "_law_script") (sp := fun K => spLaw K) hn (by decide) hdf ⟨rfl, by decide, by decide⟩ hY F fun _ _ a ns _ _ hS => ⟨a, ns, rfl, hS, fun _ => rfl⟩
end K1


open PySem PySem.W PyProof.Rows
set_option maxRecDepth 100000 in
set_option maxHeartbeats 0 in
theorem PySem.Challenge.cw_phrasejoins_k01_errors_made_holds : PySem.Challenge.rw_phrasejoins_k01_errors_made.Holds := by
  w_on; o_law; k_head; (case hw => w_witness2)
  k_fill
  refine K1.walk (l := PySem.Challenge.rw_phrasejoins_k01_errors_made) rfl rfl (fun w h Y => PySem.W.kIn_of Y) ?F
  case F =>
    intro w mg fa h KX G hmg

    have TP := K1.top_mk (x := "_law_purse") (st := K1.sPurse) (ps := ["_law_script", "_law_at"]) KX G (by k_is) (by k_is) (by k_is) (by k_is) (fun _ _ _ _ _ _ us hl => match us, hl with | [_, _], _ => rfl)
    have TM := K1.top_mk (x := "_law_mixed") (st := K1.sMixed) (ps := ["_law_seed", "_law_spin", "_law_at"]) KX G (by k_is) (by k_is) (by k_is) (by k_is) (fun _ _ _ _ _ _ us hl => match us, hl with | [_, _, _], _ => rfl)
    have TD := K1.top_mk (x := "_law_draw") (st := K1.sDraw) (ps := ["_law_purse_here", "_law_many"]) KX G (by k_is) (by k_is) (by k_is) (by k_is) (fun _ _ _ _ _ _ us hl => match us, hl with | [_, _], _ => rfl)
    have TPs := K1.top_mk (x := "_law_purses") (st := K1.sPurses) (ps := ["_law_script", "_law_few"]) KX G (by k_is) (by k_is) (by k_is) (by k_is) (fun _ _ _ _ _ _ us hl => match us, hl with | [_, _], _ => rfl)
    have TO := K1.top_mk (x := "_law_one_of") (st := K1.sOneOf) (ps := ["_law_purse_here", "_law_some"]) KX G (by k_is) (by k_is) (by k_is) (by k_is) (fun _ _ _ _ _ _ us hl => match us, hl with | [_, _], _ => rfl)
    have TW := K1.top_mk (x := "_law_word") (st := K1.sWord) (ps := ["_law_purse_here"]) KX G (by k_is) (by k_is) (by k_is) (by k_is) (fun _ _ _ _ _ _ us hl => match us, hl with | [_], _ => rfl)
    have TF := K1.top_mk (x := "_law_first") (st := K1.sFirst) (ps := ["_law_thing"]) KX G (by k_is) (by k_is) (by k_is) (by k_is) (fun _ _ _ _ _ _ us hl => match us, hl with | [_], _ => rfl)
    have TCa := K1.top_mk (x := "_law_called") (st := K1.sCalled) (ps := ["_law_thing"]) KX G (by k_is) (by k_is) (by k_is) (by k_is) (fun _ _ _ _ _ _ us hl => match us, hl with | [_], _ => rfl)
    have TB := K1.top_mk (x := "_law_bare") (st := K1.sBare) (ps := []) KX G (by k_is) (by k_is) (by k_is) (by k_is) (fun _ _ _ _ _ _ us hl => match us, hl with | [], _ => rfl)
    have TC := K1.top_mk (x := "_law_code") (st := K1.sCode) (ps := ["_law_error"]) KX G (by k_is) (by k_is) (by k_is) (by k_is) (fun _ _ _ _ _ _ us hl => match us, hl with | [_], _ => rfl)
    have TE := K1.top_mk (x := "_law_is_error") (st := K1.sIsError) (ps := ["_law_error"]) KX G (by k_is) (by k_is) (by k_is) (by k_is) (fun _ _ _ _ _ _ us hl => match us, hl with | [_], _ => rfl)
    have TR := K1.top_mk (x := "_law_right") (st := K1.sRight) (ps := ["_law_some", "_law_noted"]) KX G (by k_is) (by k_is) (by k_is) (by k_is) (fun _ _ _ _ _ _ us hl => match us, hl with | [_, _], _ => rfl)
    have T := K1.top_mk (x := "law") (st := K1.sLaw) (ps := ["_law_script"]) KX G (by k_is) (by k_is) (by k_is) (by k_is) (fun _ _ _ _ _ _ us hl => match us, hl with | [_], _ => rfl)
    have E := hmg.symm.trans T.g
    cases E
    have c0 := K1.err_mk (x := "InvalidKind") KX G (by k_is) (by k_is) (by k_is) (by k_is) (by k_is) (by k_is) (by rfl) (by k_is) (by k_is) (by k_is) (by k_is) (by k_is) (K1.excB_ok (by kernel_rfl)).1
    have c1 := K1.err_mk (x := "InvalidRow") KX G (by k_is) (by k_is) (by k_is) (by k_is) (by k_is) (by k_is) (by rfl) (by k_is) (by k_is) (by k_is) (by k_is) (by k_is) (K1.excB_ok (by kernel_rfl)).1
    have c2 := K1.err_mk (x := "InvalidPlains") KX G (by k_is) (by k_is) (by k_is) (by k_is) (by k_is) (by k_is) (by rfl) (by k_is) (by k_is) (by k_is) (by k_is) (by k_is) (K1.excB_ok (by kernel_rfl)).1
    have c3 := K1.err_mk (x := "InvalidMap") KX G (by k_is) (by k_is) (by k_is) (by k_is) (by k_is) (by k_is) (by rfl) (by k_is) (by k_is) (by k_is) (by k_is) (by k_is) (K1.excB_ok (by kernel_rfl)).1
    have c4 := K1.err_mk (x := "InvalidCount") KX G (by k_is) (by k_is) (by k_is) (by k_is) (by k_is) (by k_is) (by rfl) (by k_is) (by k_is) (by k_is) (by k_is) (by k_is) (K1.excB_ok (by kernel_rfl)).1
    have c5 := K1.err_mk (x := "InvalidPlace") KX G (by k_is) (by k_is) (by k_is) (by k_is) (by k_is) (by k_is) (by rfl) (by k_is) (by k_is) (by k_is) (by k_is) (by k_is) (K1.excB_ok (by kernel_rfl)).1
    have c6 := K1.err_mk (x := "InvalidDerivation") KX G (by k_is) (by k_is) (by k_is) (by k_is) (by k_is) (by k_is) (by rfl) (by k_is) (by k_is) (by k_is) (by k_is) (by k_is) (K1.excB_ok (by kernel_rfl)).1
    have c7 := K1.err_mk (x := "InvalidLetters") KX G (by k_is) (by k_is) (by k_is) (by k_is) (by k_is) (by k_is) (by rfl) (by k_is) (by k_is) (by k_is) (by k_is) (by k_is) (K1.excB_ok (by kernel_rfl)).1
    have c8 := K1.err_mk (x := "InvalidWord") KX G (by k_is) (by k_is) (by k_is) (by k_is) (by k_is) (by k_is) (by rfl) (by k_is) (by k_is) (by k_is) (by k_is) (by k_is) (K1.excB_ok (by kernel_rfl)).1
    have c9 := K1.err_mk (x := "InvalidTurns") KX G (by k_is) (by k_is) (by k_is) (by k_is) (by k_is) (by k_is) (by rfl) (by k_is) (by k_is) (by k_is) (by k_is) (by k_is) (K1.excB_ok (by kernel_rfl)).1
    have c10 := K1.err_mk (x := "InvalidChain") KX G (by k_is) (by k_is) (by k_is) (by k_is) (by k_is) (by k_is) (by rfl) (by k_is) (by k_is) (by k_is) (by k_is) (by k_is) (K1.excB_ok (by kernel_rfl)).1
    have c11 := K1.err_mk (x := "InvalidWorld") KX G (by k_is) (by k_is) (by k_is) (by k_is) (by k_is) (by k_is) (by rfl) (by k_is) (by k_is) (by k_is) (by k_is) (by k_is) (K1.excB_ok (by kernel_rfl)).1
    have c12 := K1.err_mk (x := "InvalidTable") KX G (by k_is) (by k_is) (by k_is) (by k_is) (by k_is) (by k_is) (by rfl) (by k_is) (by k_is) (by k_is) (by k_is) (by k_is) (K1.excB_ok (by kernel_rfl)).1
    have c13 := K1.err_mk (x := "InvalidLots") KX G (by k_is) (by k_is) (by k_is) (by k_is) (by k_is) (by k_is) (by rfl) (by k_is) (by k_is) (by k_is) (by k_is) (by k_is) (K1.excB_ok (by kernel_rfl)).1
    have c14 := K1.err_mk (x := "InvalidBook") KX G (by k_is) (by k_is) (by k_is) (by k_is) (by k_is) (by k_is) (by rfl) (by k_is) (by k_is) (by k_is) (by k_is) (by k_is) (K1.excB_ok (by kernel_rfl)).1
    have c15 := K1.err_mk (x := "InvalidSentence") KX G (by k_is) (by k_is) (by k_is) (by k_is) (by k_is) (by k_is) (by rfl) (by k_is) (by k_is) (by k_is) (by k_is) (by k_is) (K1.excB_ok (by kernel_rfl)).1
    have c16 := K1.err_mk (x := "InvalidDesk") KX G (by k_is) (by k_is) (by k_is) (by k_is) (by k_is) (by k_is) (by rfl) (by k_is) (by k_is) (by k_is) (by k_is) (by k_is) (K1.excB_ok (by kernel_rfl)).1
    have c17 := K1.err_mk (x := "InvalidScript") KX G (by k_is) (by k_is) (by k_is) (by k_is) (by k_is) (by k_is) (by rfl) (by k_is) (by k_is) (by k_is) (by k_is) (by k_is) (K1.excB_ok (by kernel_rfl)).1
    have c18 := K1.err_mk (x := "InvalidPaper") KX G (by k_is) (by k_is) (by k_is) (by k_is) (by k_is) (by k_is) (by rfl) (by k_is) (by k_is) (by k_is) (by k_is) (by k_is) (K1.excB_ok (by kernel_rfl)).1
    have c19 := K1.err_mk (x := "InvalidRecord") KX G (by k_is) (by k_is) (by k_is) (by k_is) (by k_is) (by k_is) (by rfl) (by k_is) (by k_is) (by k_is) (by k_is) (by k_is) (K1.excB_ok (by kernel_rfl)).1
    have c20 := K1.err_mk (x := "Refused") KX G (by k_is) (by k_is) (by k_is) (by k_is) (by k_is) (by k_is) (by rfl) (by k_is) (by k_is) (by k_is) (by k_is) (by k_is) (K1.excB_ok (by kernel_rfl)).1
    have b0 := K1.bare_mk (x := "PhraseError") KX G (by k_is) (by k_exc) (by k_is)
    have b21 := K1.bare_mk (x := "NothingToUndo") KX G (by k_is) (by k_exc) (by k_is)
    have b22 := K1.bare_mk (x := "NothingToRedo") KX G (by k_is) (by k_exc) (by k_is)
    have R := K1.errs_mk c0 c1 c2 c3 c4 c5 c6 c7 c8 c9 c10 c11 c12 c13 c14 c15 c16 c17 c18 c19 c20 b21.g b22.g
    have D := K1.kinds_mk R b0 (by kernel_rfl) (by kernel_rfl) (K1.no_mk R)
    have B : K1.Blt mg := ⟨PySem.W.mg_none_of KX G (by k_is), PySem.W.mg_none_of KX G (by k_is), PySem.W.mg_none_of KX G (by k_is), PySem.W.mg_none_of KX G (by k_is), PySem.W.mg_none_of KX G (by k_is), PySem.W.mg_none_of KX G (by k_is), PySem.W.mg_none_of KX G (by k_is), PySem.W.mg_none_of KX G (by k_is), PySem.W.mg_none_of KX G (by k_is), PySem.W.mg_none_of KX G (by k_is), PySem.W.mg_none_of KX G (by k_is), PySem.W.mg_none_of KX G (by k_is), PySem.W.mg_none_of KX G (by k_is)⟩
    exact ⟨_, fun s u => .of_eq rfl, fun base _ _ => K1.ok_law T TP TPs TM TD TO TW TF TCa TB TC TE TR R D b0 b21 b22 B⟩
