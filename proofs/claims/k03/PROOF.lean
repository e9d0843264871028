import PyProof.Rows.All
import Wide.All
import OpenK.AllK
import Wide.FinOn
import HandS.ForMost
import HandS.WideBits
import HandS.Defaults
import HandS.ExcInit
import HandS.IsInst
import HandS.Style
import HandS.Strs
import HandS.Zip
import HandS.NestedK
import HandS.EndTab
import HandS.CallLocal
import PyProof.ListStr
import HandS.Conv
import HandS.Set
import HandS.TupSets
import HandS.SetFor
import HandS.SetTxt0
import PyProof.Rows.SortShellAny
import HandS.Comp
import HandS.Walk
import HandS.More
import HandS.Wide
import PyProof.Rows.StrSplitCount
import PyProof.StrLawsIn
import HandS.TupLe
import HandS.ListItems
import HandS.Finally
import PySem.Challenge.RW_phrasejoins_k03_whole_types
set_option Elab.async false
set_option linter.all false
set_option maxRecDepth 100000
set_option maxHeartbeats 8000000
/-! Rules of our own: a list extended by a tuple; the end of a list cut off. Types as data. -/
namespace KT
open PySem PySem.Spec PyProof.Rows L2
open PySem.Sem (wp)
open MeetsSeq
/-! ### xs.extend(t), t a tuple -/
theorem list_extend_tup (l : Addr) (items : Array Value) (n : Nat) (b : Addr) (dd : Option Addr) (sl : Array (Option Value)) (items2 : Array Value) (n2 : Nat) (hs0 : ¬(!items.isEmpty && Builtin.List.listTooLong (items.size + items2.size)) = true) (hs1 : items.size ≤ sizeLine) (hs2 : items.size + items2.size ≤ sizeLine + 1) :
    Meets (Builtin.«list.extend» ⟨[.ref l, .ref b], []⟩) (fun _ R s => s.heap.get? l = some { cls := .type "list", dict := none, data := .seq items n, slots := #[] } ∧ s.heap.get? b = some { cls := .type "tuple", dict := dd, data := .seq items2 n2, slots := sl } ∧ R (.ok (.ret Value.none)) { s with heap := s.heap.update l (Obj.mapSeq fun x => x ++ items2), toks := s.toks }) :=
  .of_wp fun prog w A R s h => by
    obtain ⟨hp, g, d, tk, os⟩ := s; obtain ⟨hl, hb, h⟩ := h
    have f1 := AutoSeq1.idx_int; have f2 := AutoSeq1.sub_tuple_tuple; have f3 := AutoSeq1.sub_list_list; have f4 := AutoSeq1.sub_tuple_list; have f5 := AutoSeq1.sub_list_tuple
    have hz' : (items ++ items2).size ≤ sizeLine + 1 := by rw [Array.size_append]; exact hs2
    wp_walk using (wpAny_updateSeq hl rfl (hz := hs1) (_hz' := hz')), wpAny_loadPart' hl, wpAny_loadPart' hb; exact ⟨_, rfl, h⟩
section
variable {X : Cx}
def rExtT (K : PySem.W.Frag) : V → List V → Hp → VK → Prop := fun x vs H Q => ∃ l b xs zs, x = .ref l ∧ vs = [.ref b] ∧ H l = some (.lst xs) ∧ SqT K H b zs ∧ xs.length + zs.length ≤ sizeLine ∧ Q .non (upd H l (.lst (xs ++ zs)))
theorem mt_extT : MtM X "list.extend" (rExtT X.K) := by
  intro pins s σ H x vs v us Q I rx rv h
  obtain ⟨l, b, xs, zs, rfl, rfl, hH, hB, hz, q⟩ := h
  cases rx
  obtain ⟨u, rfl, ru⟩ := rv.one
  cases ru
  obtain ⟨z, its, n, r, hl, e⟩ := I.lstM hH
  obtain ⟨its2, r2, ⟨o, ho, hc, n2, hd⟩, hz2⟩ := I.tuple hB
  obtain ⟨oc, od, dt, sl⟩ := o
  simp only at hc hd
  subst hc hd
  have hl2 := r2.length
  have hsz : its.toArray.size + its2.toArray.size ≤ sizeLine := by rw [List.size_toArray, List.size_toArray]; omega
  have hlong : ¬ (!its.toArray.isEmpty && Builtin.List.listTooLong (its.toArray.size + its2.toArray.size)) = true := by
    rw [notLongL hsz, Bool.and_false]
    exact Bool.false_ne_true
  refine call_meets F.slot_list_extend ⟨_, e, rfl⟩ F.entry_list_extend (F.args_list_extend_2 _ _)
    (list_extend_tup l its.toArray n b od sl its2.toArray n2 hlong (by rw [List.size_toArray]; omega) (by omega)) ⟨e, ho, ?_⟩
  refine ⟨.non, _, I.lset (its' := its ++ its2) hH e (by simp) (r.append r2) ?_, rfl, q⟩
  rw [List.length_append]
  omega
end
/-! ### del xs[a:] -/
theorem drop_tail (its : List Value) (a : Nat) (h : a ≤ its.length) :
    (its.toArray.toList.zipIdx.filterMap fun (p : Value × Nat) => if (decide ((a : Int) ≤ (p.2 : Int)) && decide ((p.2 : Int) < (its.toArray.size : Int)) && ((p.2 : Int) - a) % 1 == 0) = true then none else some p.1).toArray = (its.take a).toArray := by
  congr 1
  rw [List.toList_toArray, List.size_toArray]
  have key : ∀ (l : List Value) (k : Nat), k + l.length ≤ its.length → (l.zipIdx k).filterMap (fun (p : Value × Nat) => if (decide ((a : Int) ≤ (p.2 : Int)) && decide ((p.2 : Int) < (its.length : Int)) && ((p.2 : Int) - a) % 1 == 0) = true then none else some p.1) = l.take (a - k) := by
    intro l
    induction l with
    | nil => intro k _; simp
    | cons x r ih =>
      intro k hk
      rw [List.length_cons] at hk
      rw [List.zipIdx_cons, List.filterMap_cons, ih (k + 1) (by omega)]
      have h1 : ((k : Int) - a) % 1 = 0 := by omega
      have h2 : ((k : Int) < (its.length : Int)) := by omega
      by_cases c : a ≤ k
      · have c' : ((a : Int) ≤ (k : Int)) := by omega
        have e0 : a - k = 0 := by omega
        have e1 : a - (k + 1) = 0 := by omega
        simp [h1, h2, c', e0, e1]
      · have c' : ¬ ((a : Int) ≤ (k : Int)) := by omega
        have e0 : a - k = (a - (k + 1)) + 1 := by omega
        simp [c', e0]
  have q := key its 0 (by omega)
  simpa using q
section
variable {prog : Program} {w : World} {A : Around} {E : Value → Shared → Prop} {s : Shared}
theorem bounds_end {a n : Nat} (h : a ≤ n) : sliceBounds (some (a : Int)) none none n = ((a : Int), (n : Int), 1) := by
  simp only [sliceBounds, Option.getD_none]
  have h1 : ¬ ((a : Int) < 0) := by omega
  simp only [h1, if_false, show (1 : Int) > 0 by decide, if_true]
  congr 1
  omega
theorem delItem_slice {l sl : Addr} {its : List Value} {n : Nat} {vl : Value} {a : Nat} {Q : Unit → Shared → Prop}
    (e : s.heap.get? l = some { cls := .type "list", data := .seq its.toArray n }) (hs : s.heap.IsSliceOf sl vl .none .none) (pl : IsPart vl (some (a : Int))) (ha : a ≤ its.length) (hsz : its.toArray.size ≤ sizeLine)
    (h : ∀ g : Array Value → Array Value, g its.toArray = (its.take a).toArray → Q () { s with heap := s.heap.update l (Obj.mapSeq g) }) :
    wpAny (model prog w) A (delItem (.ref l) (.ref sl)) Q E s := by
  have hl : s.heap.IsList l its.toArray := PySem.IsL.isList e
  obtain ⟨os, hos, hcs, hds⟩ := id hs
  have hTs : s.TypeIs (.ref sl) "slice" := ⟨os, hos, hcs⟩
  have hstep : ¬ ((rawPart none == rawInt 0) = true) := Bool.false_ne_true
  refine wpAny_delItem_slot hl.typeIs (by decide) F.slot_list_delitem (wpAny_call_entry F.slot_list_delitem hl.typeIs F.entry_list_delitem ?_ (F.args_list_delitem_2 _ _))
  show wpAny _ _ (Builtin.List.listSubscript? (.ref sl) >>= _) _ _ s
  refine wpAny_bind ?_
  unfold Builtin.List.listSubscript?
  refine wpAny_bind (wpAny_specialOf hTs slice_no_index ?_)
  simp only [Option.isNone_none, if_true]
  refine wpAny_pure ?_
  show wpAny _ _ (typeOf (.ref sl) >>= _) _ _ s
  refine wpAny_bind (wpAny_typeOf hTs ?_)
  first
    | rw [if_neg (by decide)]
    | refine PySem.W.KFB.if_not (by decide) ?_
  rw [listSliceParts_eq]
  refine wpAny_bind (wpAny_bind (wpAny_field hos hds (x := .none) rfl (wpAny_bind (wpAny_listPart .none ?_))))
  rw [if_neg hstep]
  refine wpAny_bind (wpAny_field hos hds (x := vl) rfl (wpAny_bind (wpAny_listPart pl ?_)))
  refine wpAny_bind (wpAny_field hos hds (x := .none) rfl (wpAny_bind (wpAny_listPart .none (wpAny_pure ?_))))
  refine wpAny_bind (m := Builtin.List.listItems (.ref l)) ?_
  unfold Builtin.List.listItems
  refine wpAny_bind (wpAny_seqItems e rfl (wpAny_pure ?_))
  refine wpAny_bind (wpAny_of_eq ((sliceIndices_raw (some (a : Int)) none none its.toArray.size (by simp)).trans (congrArg (pure : Int × Int × Int → Sem (Int × Int × Int)) (bounds_end (by rw [List.size_toArray]; exact ha)))) ?_)
  refine wpAny_bind (wpAny_rule ?_)
  refine wpAny_bind (wpAny_updateSeq (hz := hsz) (_hz' := ?hz) e rfl ?main)
  case hz =>
    refine Nat.le_trans (Nat.le_of_eq (congrArg Array.size (drop_tail its a ha))) ?_
    rw [List.size_toArray, List.length_take]
    rw [List.size_toArray] at hsz
    omega
  case main =>
    refine wpAny_bind (wpAny_letGo ?_)
    refine wpAny_pure ⟨.none, rfl, h _ ?_⟩
    exact drop_tail its a ha
end
section
variable {X : Cx}
/-- del xs[a:] of a list -/
def tDelTail (to : TE) (tl : TO) : TS := fun D σ H => to σ H fun x H1 => tl σ H1 fun y H2 => ∃ (l : Addr) (xs : List V) (a : Nat), x = .ref l ∧ y = some (a : Int) ∧ H2 l = some (.lst xs) ∧ a ≤ xs.length ∧ D.nx σ (upd H2 l (.lst (xs.take a)))
theorem ps_delTail {o : Expr} {lo : Option Expr} {to : TE} {tl : TO} {tpos p2 pos : Pos} (ho : PE X o to) (hl : PO X lo tl) : PS X (.Delete [.Subscript o (.Slice lo none none p2) tpos] pos) (tDelTail to tl) := by
  refine ⟨fun pins s σ H D I h => ?_⟩
  refine wpAny_Delete (wpAny_deleteEach_cons (wpAny_delete_Subscript (thn (ho.run pins s σ H _ I h) fun u s1 ⟨x, H1, I1, rx, q1⟩ => wpAny_Slice (thn (hl.run pins s1 σ H1 _ I1 q1) fun vl s2 ⟨l, H2, I2, pl, q2⟩ => ?_))))
  rw [evalPart_none]
  refine wpAny_pure ?_
  refine wpAny_pure ?_
  obtain ⟨ll, xs, a, ex, ey, hH, ha, q2⟩ := q2
  subst ex
  subst ey
  cases (show u = Value.ref ll from rx)
  have I4 : Inv X pins σ H2 { s2 with heap := s2.heap.push { cls := .type "slice", data := .fields #[vl, .none, .none] } } := I2.kept (t' := s2.toks) fun b ob q => Heap.get?_push_of_some _ q
  obtain ⟨z, its, n, r, hl', e⟩ := I4.lstM hH
  refine delItem_slice (a := a) e (Heap.IsSliceOf.new ..) pl (by omega) (by rw [List.size_toArray]; omega) fun g hg => wpAny_deleteEach_nil ⟨σ, _, I4.lset (its' := its.take a) (t' := s2.toks) hH e hg (r.take a) ?_, q2⟩
  rw [List.length_take]
  omega
end
end KT

/-! Functions as values: what may be called, and what must stand for it. -/
namespace KT
open PySem PySem.Spec PyProof.Rows L2 NdefX LamX
/-- objects that nobody tracks (captured cells) -/
abbrev Pins := List (Addr × Obj)
/-- function and code objects that are tracked -/
abbrev Exts := List (Addr × HO)
def Dep (D : Pins) (outer : List Env) (s : Shared) (H : Hp) : Prop := ∀ p ∈ D, s.heap.get? p.1 = some p.2 ∧ H p.1 = none ∧ p.1 ∉ frs outer
def ExOk (EX : Exts) (H : Hp) : Prop := ∀ p ∈ EX, H p.1 = some p.2
theorem Dep.nil {outer : List Env} {s : Shared} {H : Hp} : Dep [] outer s H := fun p hp => absurd hp (by simp)
theorem Dep.app {D D' : Pins} {outer : List Env} {s : Shared} {H : Hp} (h : Dep D outer s H) (h' : Dep D' outer s H) : Dep (D ++ D') outer s H := fun p hp => (List.mem_append.mp hp).elim (h p) (h' p)
theorem Dep.left {D D' : Pins} {outer : List Env} {s : Shared} {H : Hp} (h : Dep (D ++ D') outer s H) : Dep D outer s H := fun p hp => h p (List.mem_append.mpr (.inl hp))
theorem Dep.right {D D' : Pins} {outer : List Env} {s : Shared} {H : Hp} (h : Dep (D ++ D') outer s H) : Dep D' outer s H := fun p hp => h p (List.mem_append.mpr (.inr hp))
theorem Dep.go {X : Cx} {pins : List (Addr × Obj)} {σ : L2.St} {H : Hp} {s : Shared} {D : Pins} (hx : X.ex = []) (d : Dep D X.outer X.s_0 X.H_0) (I : Inv X pins σ H s) : Dep D X.stack s H := fun p hp => by
  obtain ⟨h1, h2, h3⟩ := d p hp
  have ne : p.1 ∉ X.ex := by rw [hx]; simp
  refine ⟨I.base.keep _ _ h1 h2 h3 ne, I.base.free _ _ h1 h2 ne, fun z => ?_⟩
  rcases List.mem_cons.mp (I.stkSub _ z) with e | e
  · have a := I.ok.above
    rw [← e] at a
    exact absurd (Heap.lt_size h1) (Nat.not_lt.mpr a)
  · exact h3 e
/-- f may be called by whoever keeps D and EX -/
structure Callee (P : Program) (w : World) (K : PySem.W.Frag) (mg : Str → Option Value) (base : Heap) (k : Nat) (f : Addr) (sp : Sp) (D : Pins) (EX : Exts) : Prop where
  run : ∀ (A : Around) (outer : List Env) (s : Shared) (H : Hp) (us : List Value) (vs : List V) (Q : VK), Room k A → Env0 P w K mg base A outer s H → Dep D outer s H → ExOk EX H → Vals vs us → sp vs H Q L2.E0 →
    codeAny (model P w) A (.call (.ref f) ⟨us, []⟩) (CR L2.CX0 outer P w H s Q L2.E0) s
  at_ : ∀ (h : Heap) (H : Hp), K.In h → HOk P w H h → ExOk EX H → PySem.W.FnAt f h
theorem Callee.mono {P : Program} {w : World} {K : PySem.W.Frag} {mg : Str → Option Value} {base : Heap} {k j : Nat} {f : Addr} {sp : Sp} {D D' : Pins} {EX EX' : Exts} (C : Callee P w K mg base k f sp D EX) (hk : k ≤ j) (hD : ∀ p ∈ D, p ∈ D') (hE : ∀ p ∈ EX, p ∈ EX') : Callee P w K mg base j f sp D' EX' :=
  ⟨fun A outer s H us vs Q hr e0 d x r q => C.run A outer s H us vs Q (hr.mono hk) e0 (fun p hp => d p (hD p hp)) (fun p hp => x p (hE p hp)) r q, fun h H a b c => C.at_ h H a b fun p hp => c p (hE p hp)⟩
theorem Callee.imp {P : Program} {w : World} {K : PySem.W.Frag} {mg : Str → Option Value} {base : Heap} {k : Nat} {f : Addr} {sp sp' : Sp} {D : Pins} {EX : Exts} (C : Callee P w K mg base k f sp D EX) (h : ∀ vs H Q, sp' vs H Q L2.E0 → sp vs H Q L2.E0) : Callee P w K mg base k f sp' D EX :=
  ⟨fun A outer s H us vs Q hr e0 d x r q => C.run A outer s H us vs Q hr e0 d x r (h _ _ _ q), C.at_⟩
/-- a def of the top -/
theorem callee_top {P : Program} {w : World} {K : PySem.W.Frag} {mg : Str → Option Value} {base : Heap} {k : Nat} {f : Addr} {fd : FuncData} {x q : Str} {st : Stmt} {ps : List Str} {sp : Sp} (F : FnOk P w K mg base L2.CX0 k f fd ps sp) (T : Fun K x q st f fd) (b : L2.Binds K fd ps []) : Callee P w K mg base k f sp [] [] where
  run := fun A outer s H us vs Q hr e0 _ _ r h => by
    have KX : K.In s.heap := e0.mod.kin.keeps fun b o e => (e0.bs b o e).1
    have hl : (us ++ []).length = ps.length := by
      rw [List.append_nil, ← r.length]
      exact F.len _ _ _ _ h
    have hb := b s us KX hl
    rw [List.append_nil] at hb
    exact F.run A outer s H ⟨us, []⟩ us vs Q L2.E0 hr e0 hb r h
  at_ := fun h H KX _ _ => by
    obtain ⟨oc, od, kV, doc, pm, an, cdv, ct, osl, rfl, lk, _⟩ := T.ex
    exact ⟨_, _, _, _, KX _ _ lk⟩
section
variable {X : Cx} {k i : Nat} {f : Addr} {sp : Sp} {D : Pins} {EX : Exts} {x : Str} {p pos : Pos} {e : Expr} {es : List Expr} {t : TA}
theorem run_callee {pins : List (Addr × Obj)} {σ : L2.St} {H : Hp} {s : Shared} {Q : VK} {us : List Value} {vs : List V} (C : Callee X.prog X.w X.K X.mg X.base k f sp D EX) (hr : Room k X.A) (d : Dep D X.stack s H) (x : ExOk EX H) (I : Inv X pins σ H s) (r : Vals vs us) (h : sp vs H Q L2.E0) :
    wpAny (model X.prog X.w) X.A (call (.ref f) us) (EP X pins σ Q) X.xe s := by
  refine wpAny_call (codeAny_mono (C.run X.A X.stack s H us vs Q hr I.env0 d x r h) fun q s' hq => ?_)
  match q, hq with
  | .error _, hq => exact False.elim hq
  | .ok (.ret _), hq => exact I.after hq
  | .ok .next, hq => exact False.elim hq
  | .ok .brk, hq => exact False.elim hq
  | .ok .cont, hq => exact False.elim hq
def tCallee (i : Nat) (f : Addr) (sp : Sp) (EX : Exts) (t : TA) : TE := fun σ H Q => σ[i]? = some (some (.ref f)) ∧ ExOk EX H ∧ t σ H fun vs H1 => ExOk EX H1 ∧ sp vs H1 Q L2.E0
/-- x(e, ..), x a name that holds f -/
theorem pe_callee (C : Callee X.prog X.w X.K X.mg X.base k f sp D EX) (hr : Room k X.A) (hx : X.ex = []) (d : Dep D X.outer X.s_0 X.H_0) (hN : X.N[i]? = some x) (hv : Vis X.env.scope x) (ha : PA X (e :: es) t)
    (hd : (x == ("__debug__" : Str)) = false := by decide) (hcd : (x == ("__classdict__" : Str)) = false := by decide)
    (he : starEach (e :: es) X.env = (false, eval e X.env) :: starEach es X.env := by rfl) (hpl : (backTo pos (starEach es X.env)).any (·.1) = false := by rfl) :
    PE X (.Call (.Name x p) (e :: es) [] pos) (tCallee i f sp EX t) := by
  refine ⟨fun pins s σ H Q I h => ?_⟩
  obtain ⟨hs, hE, ht⟩ := h
  refine wpAny_Call_Name_kw (thn ((pe_var (pos := p) hN hv hd hcd).run pins s σ H (fun v H1 => v = .ref f ∧ H1 = H) I ⟨.ref f, hs, rfl, rfl⟩) fun u s1 ⟨v, H1, I1, r1, q1⟩ => ?_)
  obtain ⟨ev, eH⟩ := q1
  subst ev
  rw [eH] at I1
  obtain rfl : u = Value.ref f := r1
  refine PySem.W.callWith_F (first := []) (C.at_ _ _ I1.kIn I1.hok hE) (thn (ha.run pos pins s1 σ H _ I1 ht) fun us s2 ⟨vs, H2, I2, r, h1, q⟩ => ⟨C.at_ _ _ I2.kIn I2.hok h1, ?_⟩) he hpl
  show wpAny _ _ (call (.ref f) us) _ _ _
  exact run_callee C hr (d.go hx I2) h1 I2 r q
end
/-! ### what is captured -/
/-- the cells of cl stand in D, with the values ws -/
structure CellD (D : Pins) (cl : List (Str × Addr)) (fr : List Str) (ws : List (Option V)) : Prop where
  len : ws.length = fr.length
  all : ∀ y c, cl.lookup y = some c → ∃ o v, (c, o) ∈ D ∧ o.data = .cell v
  inj : ∀ x y c, cl.lookup x = some c → cl.lookup y = some c → x = y
  has : ∀ (i : Nat) (y : Str), fr[i]? = some y → ∃ c, cl.lookup y = some c ∧ ∀ v, ws[i]? = some (some v) → ∃ u o, L2.RelV v u ∧ (c, o) ∈ D ∧ o.data = .cell (some u)
theorem CellD.at_ {D : Pins} {cl : List (Str × Addr)} {fr : List Str} {ws : List (Option V)} (C : CellD D cl fr ws) {outer : List Env} {s : Shared} {H : Hp} (d : Dep D outer s H) : CellsAt cl fr ws s.heap H where
  len := C.len
  all := fun y c e => by
    obtain ⟨o, v, hm, hd⟩ := C.all y c e
    obtain ⟨h1, h2, _⟩ := d _ hm
    exact ⟨h2, v, o, h1, hd⟩
  inj := C.inj
  has := fun i y e => by
    obtain ⟨c, hc, hv⟩ := C.has i y e
    refine ⟨c, hc, fun v ev => ?_⟩
    obtain ⟨u, o, r, hm, hd⟩ := hv v ev
    exact ⟨u, r, o, (d _ hm).1, hd⟩
theorem CellD.mono {D D' : Pins} {cl : List (Str × Addr)} {fr : List Str} {ws : List (Option V)} (C : CellD D cl fr ws) (h : ∀ p ∈ D, p ∈ D') : CellD D' cl fr ws :=
  ⟨C.len, fun y c e => by
    obtain ⟨o, v, hm, hd⟩ := C.all y c e
    exact ⟨o, v, h _ hm, hd⟩, C.inj, fun i y e => by
    obtain ⟨c, hc, hv⟩ := C.has i y e
    refine ⟨c, hc, fun v ev => ?_⟩
    obtain ⟨u, o, r, hm, hd⟩ := hv v ev
    exact ⟨u, o, r, h _ hm, hd⟩⟩
/-- the running def's own cells, as they stand -/
theorem own_cells {X : Cx} {pins : List (Addr × Obj)} {σ : L2.St} {H : Hp} {s : Shared} {cl : List (Str × Addr)} {fr : List Str} {js : List Nat} (I : Inv X pins σ H s) (hx : X.ex = []) (hfn : ∀ x, X.fn x = true) (c : Caps X cl fr js) :
    ∃ D, Dep D X.stack s H ∧ CellD D cl fr (js.map (slotAt σ)) := by
  have C := cells_of I c
  have mem : ∀ {y : Str} {a : Addr} {o : Obj}, cl.lookup y = some a → s.heap.get? a = some o → (a, o) ∈ cl.filterMap (fun p => (cl.lookup p.1).bind fun a => (s.heap.get? a).map fun o => (a, o)) := fun {y a o} e ho => by
    refine List.mem_filterMap.mpr ⟨(y, a), PySem.mem_of_lookup e, ?_⟩
    show (cl.lookup y).bind _ = _
    rw [e]
    show (s.heap.get? a).map _ = _
    rw [ho]
    rfl
  refine ⟨cl.filterMap fun p => (cl.lookup p.1).bind fun a => (s.heap.get? a).map fun o => (a, o), fun p hp => ?_, C.len, fun y a e => ?_, C.inj, fun i y e => ?_⟩
  · obtain ⟨⟨y, a0⟩, hm, e⟩ := List.mem_filterMap.mp hp
    obtain ⟨a, ha, e⟩ := Option.bind_eq_some_iff.mp e
    obtain ⟨o, ho, e⟩ := Option.map_eq_some_iff.mp e
    subst e
    have ha' : cl.lookup y = some a := ha
    have hX := c.sub y a ha'
    refine ⟨ho, (C.all y a ha').1, fun z => ?_⟩
    rcases List.mem_cons.mp (I.stkSub _ z) with e | e
    · exact I.cne y a hX e
    · obtain ⟨_, o', ho', _⟩ := I.ok.funs.mem e
      exact absurd (Heap.lt_size ho') (Nat.not_lt.mpr (I.ok.cab y a (hfn y) hX))
  · obtain ⟨_, v, o, ho, hd⟩ := C.all y a e
    exact ⟨o, v, mem e ho, hd⟩
  · obtain ⟨a, ha, hv⟩ := C.has i y e
    refine ⟨a, ha, fun v ev => ?_⟩
    obtain ⟨u, r, o, ho, hd⟩ := hv v ev
    exact ⟨u, o, r, mem ha ho, hd⟩
/-! ### functions made within defs -/
section
variable {P : Program} {w : World} {K : PySem.W.Frag} {mg : Str → Option Value} {base : Heap} {N ps fr : List Str} {ws : List (Option V)} {F : NF} {f : Addr} {k : Nat} {sp : Sp} {D : Pins} {EX : Exts}
/-- a def in a def -/
theorem callee_def (S : NScope N ps fr F.scope) (hb : ∀ (doc pm ctv : Value) (us : List Value), us.length = ps.length → bindArgs (F.fd doc pm ctv) ⟨us, []⟩ = pure (ps.zip us)) (len : ∀ vs H Q, sp vs H Q L2.E0 → vs.length = ps.length)
    (hf : (f, FnO f F) ∈ EX) (hc : (F.c, CodeO F.c F.qual) ∈ EX) (C : CellD D F.cl fr ws)
    (hbody : ∀ (A : Around) (outer : List Env) (s : Shared) (H : Hp) (vs : List V) (Q : VK), Room k (A.deeper (envF F f s.heap.objs.size)) → Dep D outer s H → ExOk EX H → sp vs H Q L2.E0 →
      ∃ t, PSs (ncx L2.CX0 P w K mg base N F f A outer s H L2.E0) F.body t ∧ t { nx := fun _ H' => Q .non H', rt := Q } (startF N vs ws) H) :
    Callee P w K mg base (k + 1) f sp D EX where
  at_ := fun h H _ hok x => by
    obtain ⟨od, sl, doc, pm, ctv, ho⟩ := fnO_at hok (x _ hf)
    exact ⟨_, od, _, sl, ho⟩
  run := fun A outer s H us vs Q hr e0 d x r hsp => by
    have hl := len _ _ _ hsp
    have lim : s.heap.NoLimit := e0.mod.nolimit.keeps fun b o e => (e0.bs b o e).1
    obtain ⟨od, sl, doc, pm, ctv, ho⟩ := fnO_at e0.hok (x _ hf)
    refine codeAny_call_function hr.depth ho rfl S.co S.gen rfl (codeO_at e0.hok (x _ hc)) ?_
    rw [hb doc pm ctv us (by rw [← r.length]; exact hl)]
    refine wpAny_pure (wpAny_newFunctionEnv S.nocell (fun ⟨n, _⟩ hy => S.par n (List.of_mem_zip hy).1) (fun h₁ hns hsb => ⟨lim.fresh _ hsb, ?_⟩) S.kind)
    show codeAny _ _ (.func F.body (envF F f s.heap.objs.size)) _ _
    refine codeAny_func ?_
    have kp : ∀ b o, s.heap.get? b = some o → h₁.get? b = some o := fun b o e => hsb.extBut b o (Nat.ne_of_lt (Heap.lt_size e)) (Heap.get?_push_of_some _ e)
    obtain ⟨t, ht, hq⟩ := hbody A outer s H vs Q (hr.deeper _) d x hsp
    have I : Inv (ncx L2.CX0 P w K mg base N F f A outer s H L2.E0) [] (startF N vs ws) H { s with heap := h₁, toks := s.toks + (ps.zip us).length } := inv_startN S hr.hd e0 hl r (C.at_ d) hns kp
    refine wpAny_mono (ht.run [] _ (startF N vs ws) H _ I hq) (fun fl s' hs => ?_) fun e s' hs => hs
    have fin : ∀ {σ' : L2.St} {H' : Hp} {v : V} {u : Value}, Inv (ncx L2.CX0 P w K mg base N F f A outer s H L2.E0) [] σ' H' s' → L2.RelV v u → Q v H' → CE outer P w H s Q u s' :=
      fun {σ' H' v u} J rv q => ⟨v, H', J.os, J.bare, J.base, J.hok, rv, q⟩
    match fl, hs with
    | .ret u, ⟨v, σ', H', J, rv, q⟩ => exact fin J rv q
    | .next, ⟨σ', H', J, q⟩ => exact fin (v := V.non) (u := Value.none) J rfl q
    | .brk, ⟨_, _, _, q⟩ => exact False.elim q
    | .cont, ⟨_, _, _, q⟩ => exact False.elim q
/-- the object at f is the lambda of these words -/
def LamO (f : Addr) (F : NF) (body : Expr) : HO := .ext fun h => ∃ (pm ctv : Value), h.get? f = some (PySem.W.kla_obj F.name F.qual F.params body F.scope F.cl pm F.c ctv)
theorem lamO_at {H : Hp} {h : Heap} {body : Expr} (hok : HOk P w H h) (e : H f = some (LamO f F body)) : ∃ (pm ctv : Value), h.get? f = some (PySem.W.kla_obj F.name F.qual F.params body F.scope F.cl pm F.c ctv) := by
  obtain ⟨z, _, _⟩ := hok f _ e
  exact z
theorem callee_lam {body : Expr} (S : NScope N ps fr F.scope) (hb : ∀ (pm ctv : Value) (us : List Value), us.length = ps.length → bindArgs (PySem.W.kla_fn F.name F.qual F.params body F.scope F.cl pm (.ref F.c) ctv) ⟨us, []⟩ = pure (ps.zip us)) (len : ∀ vs H Q, sp vs H Q L2.E0 → vs.length = ps.length)
    (hf : (f, LamO f F body) ∈ EX) (hc : (F.c, CodeO F.c F.qual) ∈ EX) (C : CellD D F.cl fr ws)
    (hbody : ∀ (A : Around) (outer : List Env) (s : Shared) (H : Hp) (vs : List V) (Q : VK), Room k (A.deeper (envF F f s.heap.objs.size)) → Dep D outer s H → ExOk EX H → sp vs H Q L2.E0 →
      ∃ t, PE (ncx L2.CX0 P w K mg base N F f A outer s H L2.E0) body t ∧ t (startF N vs ws) H Q) :
    Callee P w K mg base (k + 1) f sp D EX where
  at_ := fun h H _ hok x => by
    obtain ⟨pm, ctv, ho⟩ := lamO_at hok (x _ hf)
    exact ⟨_, _, _, _, ho⟩
  run := fun A outer s H us vs Q hr e0 d x r hsp => by
    have hl := len _ _ _ hsp
    have lim : s.heap.NoLimit := e0.mod.nolimit.keeps fun b o e => (e0.bs b o e).1
    obtain ⟨pm, ctv, ho⟩ := lamO_at e0.hok (x _ hf)
    refine PySem.W.kla_callFunE hr.depth ho rfl S.co S.gen rfl (codeO_at e0.hok (x _ hc)) ?_
    rw [hb pm ctv us (by rw [← r.length]; exact hl)]
    refine wpAny_pure (wpAny_newFunctionEnv S.nocell (fun ⟨n, _⟩ hy => S.par n (List.of_mem_zip hy).1) (fun h₁ hns hsb => ⟨lim.fresh _ hsb, ?_⟩) S.kind)
    show codeAny _ _ (.expr body (envF F f s.heap.objs.size)) _ _
    have kp : ∀ b o, s.heap.get? b = some o → h₁.get? b = some o := fun b o e => hsb.extBut b o (Nat.ne_of_lt (Heap.lt_size e)) (Heap.get?_push_of_some _ e)
    obtain ⟨t, ht, hq⟩ := hbody A outer s H vs Q (hr.deeper _) d x hsp
    have I : Inv (ncx L2.CX0 P w K mg base N F f A outer s H L2.E0) [] (startF N vs ws) H { s with heap := h₁, toks := s.toks + (ps.zip us).length } := inv_startN S hr.hd e0 hl r (C.at_ d) hns kp
    refine PySem.W.kla_codeExpr (wpAny_mono (ht.run [] _ (startF N vs ws) H Q I hq) (fun v s' hq => ?_) fun e s' hq => hq)
    obtain ⟨w', H', J, rv, q⟩ := hq
    exact ⟨w', H', J.os, J.bare, J.base, J.hok, rv, q⟩
end
end KT

/-! A lambda as a value; defs whose promise stands on captured cells. -/
namespace KT
open PySem PySem.Spec PyProof.Rows L2 NdefX LamX
section
variable {X : Cx} {pins : List (Addr × Obj)} {σ : L2.St} {H : Hp} {s : Shared}
theorem inv_lam {F : NF} {body : Expr} {o : Obj} {t' : Nat} {pm ctv : Value} (I : Inv X pins σ H s) (ho : o = PySem.W.kla_obj F.name F.qual F.params body F.scope F.cl pm F.c ctv) :
    Inv X pins σ (upd H s.heap.objs.size (LamO s.heap.objs.size F body)) { s with heap := s.heap.push o, toks := t' } := by
  subst ho
  refine I.laid (a := s.heap.objs.size) (fun b u e => Heap.get?_push_of_some _ e) (Nat.le_refl _) ?_
  have e : (s.heap.push (PySem.W.kla_obj F.name F.qual F.params body F.scope F.cl pm F.c ctv)).get? s.heap.objs.size = some (PySem.W.kla_obj F.name F.qual F.params body F.scope F.cl pm F.c ctv) := Heap.get?_push_size _ rfl
  exact ⟨⟨pm, ctv, e⟩, ⟨_, e⟩, fun h1 h2 ⟨p, t, z⟩ st => ⟨p, t, st _ z⟩⟩
abbrev lamF (X : Cx) (params : Arguments) (scope : Scope) (c' : Addr) : NF := ⟨"<lambda>", X.env.qual ++ "<lambda>", params, [], scope, cloFrom X.env.cells scope.names [], c'⟩
theorem lam_makeT {T : List (Addr × Str)} {c P : Addr} {params : Arguments} {body : Expr} {scope : Scope} {pos : Pos} {E : Value → Shared → Prop} {Q : Value → Shared → Prop} (I : Inv X pins σ H s) (TB : TabB X.base X.mg c P) (hcode : X.env.code = .ref c)
    (hm : (P, X.env.qual ++ "<lambda>") ∈ T) (hu : ∀ p ∈ T, p.1 = P → p.2 = X.env.qual ++ "<lambda>") (hT : Tabs T H) (hdef : defaultsOf params X.env = ([], [])) (hfree : ∀ y ∈ scope.names, y.2 = .free → ∃ c, X.env.cells.lookup y.1 = some c)
    (h : ∀ (f c' : Addr) (H1 : Hp) (s' : Shared), Inv X pins σ H1 s' → ExtN H H1 → (∀ b, H1 b = none → H b = none) → Tabs T H1 → H f = none → H1 f = some (LamO f (lamF X params scope c') body) → H1 c' = some (CodeO c' (X.env.qual ++ "<lambda>")) → Q (.ref f) s') :
    wpAny (model X.prog X.w) X.A (eval (.Lambda params body scope pos) X.env) Q E s := by
  obtain ⟨ps, hP, ht, ha⟩ := hT _ hm
  refine PySem.W.kla_eval hdef ?_
  have bP : s.heap.BuiltinsAt X.mg P := TB.bm.keeps I.bk
  have hP' : s.heap.get? P = some { cls := .none, data := .fields ps } := I.hok P _ hP
  cases hc : codeAmong pos ps.toList with
  | none =>
    refine PySem.W.kla_makeFunction (mg := X.mg) (c := c) (P := P) (ps := ps) (closure_ok hfree) I.ok.glob (I.mod.glob.keeps I.bk) hcode (TB.code.keeps I.bk) hP' ht hc TB.gP bP fun c' ctv h' tk hx hge hlt hrec htb => ?_
    obtain ⟨c2, oc, vs, t, e2, hoc, hd, hv⟩ := hrec
    cases e2
    have nC : H c' = none := I.hok.fresh hge
    have I1 := inv_table (t' := tk) (more := #[rawInt pos.line, rawInt pos.col, .ref c']) (h' := h') I hP (fun b o hb e => hx b o hb e) htb hge ⟨oc, vs, t, hoc, hd, hv⟩
    have hE : ExtN H (upd (upd H P (.tbl (ps ++ #[rawInt pos.line, rawInt pos.col, .ref c']))) c' (CodeO c' (X.env.qual ++ "<lambda>"))) := fun b o e n => by
      rw [upd_ne (ne_of_none e nC), upd_ne (fun z => n ps (Option.some.inj (e.symm.trans (by rw [z]; exact hP))))]
      exact e
    have eL : (ps ++ #[rawInt pos.line, rawInt pos.col, .ref c']).toList = ps.toList ++ [rawInt pos.line, rawInt pos.col, .ref c'] := by simp
    have T1 : Tabs T (upd (upd H P (.tbl (ps ++ #[rawInt pos.line, rawInt pos.col, .ref c']))) c' (CodeO c' (X.env.qual ++ "<lambda>"))) := fun p hp => by
      by_cases hb : p.1 = P
      · rw [hu p hp hb, hb]
        refine ⟨_, by rw [upd_ne (ne_of_none hP nC), upd_same], by rw [eL]; exact PySem.TriplesOk_snoc _ _ _ _ ht, fun p' cv hcv => ?_⟩
        rw [eL] at hcv
        rcases among_app _ ht hcv with z | z
        · obtain ⟨c0, e1, e2⟩ := ha p' cv z
          exact ⟨c0, e1, hE _ _ e2 codeO_ne⟩
        · exact ⟨c', z, upd_same⟩
      · obtain ⟨ps', a1, a2, a3⟩ := hT p hp
        refine ⟨ps', by rw [upd_ne (ne_of_none a1 nC), upd_ne hb]; exact a1, a2, fun p' cv hcv => ?_⟩
        obtain ⟨c0, e1, e2⟩ := a3 p' cv hcv
        exact ⟨c0, e1, hE _ _ e2 codeO_ne⟩
    have nF := I1.hok.fresh (Nat.le_refl _)
    have I2 := inv_lam (F := lamF X params scope c') (body := body) (t' := tk) (pm := (X.mg "__name__").getD .none) (ctv := ctv) I1 rfl
    refine h h'.objs.size c' _ _ I2 (fun b o e n => ?_) (fun b e => upd_none (upd_none (upd_none e))) (T1.ext fun b o e => ?_) (I.hok.fresh (Nat.le_trans hge (Nat.le_of_lt hlt))) upd_same ?_
    · have e1 := hE b o e n
      exact (upd_ne (ne_of_none e1 nF)).trans e1
    · exact (upd_ne (ne_of_none e nF)).trans e
    · exact (upd_ne (Nat.ne_of_lt hlt)).trans upd_same
  | some cv =>
    obtain ⟨c', e, hco⟩ := ha pos cv hc
    subst e
    refine PySem.W.kla_makeFunctionHit (mg := X.mg) (c := c) (P := P) (ps := ps) (closure_ok hfree) I.ok.glob (I.mod.glob.keeps I.bk) hcode (TB.code.keeps I.bk) hP' ht hc bP fun ctv h' tk hx hsz => ?_
    have I1 : Inv X pins σ H { s with heap := h', toks := tk } := I.kept hx
    have nF : H h'.objs.size = none := I1.hok.fresh (Nat.le_refl _)
    have I2 := inv_lam (F := lamF X params scope c') (body := body) (t' := tk) (pm := (X.mg "__name__").getD .none) (ctv := ctv) I1 rfl
    refine h h'.objs.size c' _ _ I2 (fun b o e n => ?_) (fun b e => upd_none e) (hT.ext fun b o e => ?_) nF upd_same ?_
    · exact (upd_ne (ne_of_none e nF)).trans e
    · exact (upd_ne (ne_of_none e nF)).trans e
    · exact (upd_ne (ne_of_none hco nF)).trans hco
end
/-- lambda ..: .., as a value -/
def tLamV (T : List (Addr × Str)) (mk : Addr → NF) (body : Expr) : TE := fun _ H Q => Tabs T H ∧ ∀ (f c' : Addr) (H1 : Hp), ExtN H H1 → (∀ b, H1 b = none → H b = none) → Tabs T H1 → H f = none → H1 f = some (LamO f (mk c') body) → H1 c' = some (CodeO c' (mk c').qual) → Q (.ref f) H1
section
variable {X : Cx}
theorem pe_lamV {T : List (Addr × Str)} {c P : Addr} {params : Arguments} {body : Expr} {scope : Scope} {pos : Pos} (TB : TabB X.base X.mg c P) (hcode : X.env.code = .ref c)
    (hm : (P, X.env.qual ++ "<lambda>") ∈ T) (hu : ∀ p ∈ T, p.1 = P → p.2 = X.env.qual ++ "<lambda>") (hdef : defaultsOf params X.env = ([], []))
    (hfree : ∀ y ∈ scope.names, y.2 = .free → X.env.scope.names.lookup y.1 = some .cell ∨ X.env.scope.names.lookup y.1 = some .free) :
    PE X (.Lambda params body scope pos) (tLamV T (lamF X params scope) body) := by
  refine ⟨fun pins s σ H Q I h => ?_⟩
  obtain ⟨hT, h⟩ := h
  have hfr : ∀ y ∈ scope.names, y.2 = .free → ∃ c, X.env.cells.lookup y.1 = some c := fun y hy e => (hfree y hy e).elim (fun z => I.ok.has _ (.inl z)) fun z => I.ok.has _ (.inr z)
  exact lam_makeT I TB hcode hm hu hT hdef hfr fun f c' H1 s' I1 eN nn T1 f0 f1 c1 => ⟨.ref f, H1, I1, rfl, h f c' H1 eN nn T1 f0 f1 c1⟩
end
/-! ### defs whose promise stands on pins -/
structure FnD (P : Program) (w : World) (K : PySem.W.Frag) (mg : Str → Option Value) (base : Heap) (k : Nat) (f : Addr) (fd : FuncData) (ps : List Str) (sp : Pins → Sp) : Prop where
  len : ∀ D vs H Q, sp D vs H Q L2.E0 → vs.length = ps.length
  run : ∀ (D : Pins) (B : Around) (outer : List Env) (s : Shared) (H : Hp) (args : Args) (us : List Value) (vs : List V) (Q : VK), Room k B → Env0 P w K mg base B outer s H →
    BindsTo s fd args (ps.zip us) → Vals vs us → Dep D outer s H → sp D vs H Q L2.E0 → codeAny (model P w) B (.call (.ref f) args) (CR L2.CX0 outer P w H s Q L2.E0) s
/-- THE RULE for such a def; c: its code object -/
theorem fnd_of {P : Program} {w : World} {K : PySem.W.Frag} {mg : Str → Option Value} {base : Heap} {x qual : Str} {st : Stmt} {f c : Addr} {N ps : List Str} {k : Nat} {sp : Pins → Sp} {oc : Value} {od : Option Addr} {kV doc pm : Value} {an : Option Addr} {ct : Value} {osl : Array (Option Value)}
    (lk : K.lookup f = some ⟨oc, od, .func (PySem.W.fnOf x qual (L2.defArgs st) (L2.defBody st) (L2.defScope st) .none kV doc pm an (.ref c) ct), osl⟩) (hcd : PySem.W.codeIn K (.ref c) qual = true)
    (S : FnScope N ps (L2.defScope st)) (len : ∀ D vs H Q, sp D vs H Q L2.E0 → vs.length = ps.length)
    (body : ∀ (D : Pins) (B : Around) (outer : List Env) (s : Shared) (H : Hp) (vs : List V) (Q : VK), Room k (B.deeper (envOfC qual (L2.defScope st) s.heap.objs.size f (.ref c))) → Dep D outer s H → sp D vs H Q L2.E0 →
      ∃ t, PSs (cxOf L2.CX0 P w K mg base N qual (L2.defScope st) f (.ref c) B outer s H L2.E0).nox (L2.defBody st) t ∧ t { nx := fun _ H' => Q .non H', rt := Q } (start N vs) H) :
    FnD P w K mg base (k + 1) f (PySem.W.fnOf x qual (L2.defArgs st) (L2.defBody st) (L2.defScope st) .none kV doc pm an (.ref c) ct) ps sp := by
  refine ⟨len, fun D B outer s H args us vs Q hr e0 hb r d hsp => ?_⟩
  have hl := len _ _ _ _ hsp
  have KX : K.In s.heap := e0.mod.kin.keeps fun b o e => (e0.bs b o e).1
  have lim : s.heap.NoLimit := e0.mod.nolimit.keeps fun b o e => (e0.bs b o e).1
  have kinds : ∀ y ∈ ps.zip us, (L2.defScope st).names.lookup y.1 = some .local ∨ ((L2.defScope st).names.lookup y.1 = some .cell ∧ ((cellsFrom (s.heap.objs.size + 1) (L2.defScope st).names []).lookup y.1).isSome = true) := by
    rintro ⟨n, v⟩ hy
    exact (S.par n (List.of_mem_zip hy).1).imp id fun q => ⟨q, PySem.W.cellsFrom_some _ _ _ (.inl q)⟩
  refine codeAny_call_function hr.depth (KX _ _ lk) rfl S.co S.gen rfl (PySem.W.codeRec_of KX hcd) (hb _ _ _ _ ?_)
  refine wpAny_newFunctionEnv_cells S.kind kinds fun env he s1 z => ?_
  subst he
  refine ⟨lim.keeps z.toInCall.keep, codeAny_func ?_⟩
  obtain ⟨t, ht, hq⟩ := body D B outer s H vs Q (hr.deeper _) d hsp
  have I := inv_start (CX := L2.CX0) (E := L2.E0) S hr.hd e0 hl r z
  refine wpAny_mono (ht.nox.run [] s1 (start N vs) H _ I hq) (fun fl s' hs => ?_) fun e s' hs => hs
  match fl, hs with
  | .ret u, ⟨v, σ', H', J, rv, q⟩ => exact ⟨v, H', J.os, J.bare, J.base, J.hok, rv, q⟩
  | .next, ⟨σ', H', J, q⟩ => exact ⟨V.non, H', J.os, J.bare, J.base, J.hok, rfl, q⟩
  | .brk, ⟨_, _, _, q⟩ => exact False.elim q
  | .cont, ⟨_, _, _, q⟩ => exact False.elim q
section
variable {X : Cx} {k : Nat} {f : Addr} {fd : FuncData} {ps : List Str} {sp : Pins → Sp} {x : Str} {p pos : Pos} {e : Expr} {es : List Expr} {t : TA} {D0 : Pins}
/-- f(e, ..), what stands for D0 and the cells cl of the running def -/
def tDCall (D0 : Pins) (cl : List (Str × Addr)) (fr : List Str) (js : List Nat) (sp : Pins → Sp) (t : TA) : TE := fun σ H Q => t σ H fun vs H1 => ∀ D1 : Pins, CellD D1 cl fr (js.map (slotAt σ)) → sp (D0 ++ D1) vs H1 Q L2.E0
theorem pe_dcall {cl : List (Str × Addr)} {fr : List Str} {js : List Nat} (F : FnD X.prog X.w X.K X.mg X.base k f fd ps sp) (hr : Room k X.A) (hx : X.ex = []) (hfn : ∀ x, X.fn x = true) (d : Dep D0 X.outer X.s_0 X.H_0) (cp : X.Ok → Caps X cl fr js)
    (hg : Gl X x) (hm : X.mg x = some (.ref f)) (hk : PySem.W.keepIn X.K (.ref f) = true) (hb : L2.Binds X.K fd ps [])
    (ha : PA X (e :: es) t) (hdb : (x == ("__debug__" : Str)) = false := by decide) (he : starEach (e :: es) X.env = (false, eval e X.env) :: starEach es X.env := by rfl) (hpl : (backTo pos (starEach es X.env)).any (·.1) = false := by rfl) :
    PE X (.Call (.Name x p) (e :: es) [] pos) (tDCall D0 cl fr js sp t) := by
  refine ⟨fun pins s σ H Q I h => wpAny_Call_Name_kw (ld_glob I hg hm ?_ hdb)⟩
  refine PySem.W.callWith_K (h₀ := X.base) I.ok.mod.kin hk (thn (ha.run pos pins s σ H _ I h) fun us s1 ⟨vs, H1, I1, r, q⟩ => ⟨I1.kIn, ?_⟩) he hpl
  obtain ⟨D1, d1, C1⟩ := own_cells I1 hx hfn (cp I1.ok)
  have hq := q D1 C1
  have hl : (us ++ []).length = ps.length := by
    rw [List.append_nil, ← r.length]
    exact F.len _ _ _ _ hq
  have hb' := hb s1 us I1.kIn hl
  rw [List.append_nil] at hb'
  refine wpAny_call (codeAny_mono (F.run (D0 ++ D1) X.A X.stack s1 H1 ⟨us, []⟩ us vs Q hr I1.env0 hb' r ((d.go hx I1).app d1) hq) fun q s' hq => ?_)
  match q, hq with
  | .error _, hq => exact False.elim hq
  | .ok (.ret _), hq => exact I1.after hq
  | .ok .next, hq => exact False.elim hq
  | .ok .brk, hq => exact False.elim hq
  | .ok .cont, hq => exact False.elim hq
end
end KT

namespace KT
open PySem PySem.Spec PyProof.Rows L2 NdefX LamX
/-- a promise that needs no pins is one of the plain kind -/
theorem FnD.ok {P : Program} {w : World} {K : PySem.W.Frag} {mg : Str → Option Value} {base : Heap} {k : Nat} {f : Addr} {fd : FuncData} {ps : List Str} {sp : Sp} (F : FnD P w K mg base k f fd ps (fun _ => sp)) (h0 : ∀ vs H Q E, sp vs H Q E → sp vs H Q L2.E0) : FnOk P w K mg base L2.CX0 k f fd ps sp := by
  refine ⟨fun vs H Q E h => F.len [] vs H Q (h0 _ _ _ _ h), fun B outer s H args us vs Q E hr e0 hb r h => codeAny_mono (F.run [] B outer s H args us vs Q hr e0 hb r Dep.nil (h0 _ _ _ _ h)) fun q s' hq => ?_⟩
  match q, hq with
  | .error _, hq => exact False.elim hq
  | .ok (.ret _), hq => exact hq
  | .ok .next, hq => exact False.elim hq
  | .ok .brk, hq => exact False.elim hq
  | .ok .cont, hq => exact False.elim hq
theorem CellD.nil {D : Pins} : CellD D [] [] [] := ⟨rfl, fun y c e => (by cases e), fun x y c e => (by cases e), fun i y e => (by simp at e)⟩
theorem Caps.nil {X : Cx} : Caps X [] [] [] := ⟨fun y c e => (by cases e), fun y hy => (by cases hy), fun y hy => (by cases hy), rfl⟩
section
variable {P : Program} {w : World} {K : PySem.W.Frag} {mg : Str → Option Value} {base : Heap} {N ps fr : List Str} {ws : List (Option V)} {F : NF} {f : Addr} {k : Nat} {sp : Sp} {D : Pins} {body : Expr} {H0 : Hp}
theorem lam_callee (e1 : H0 f = some (LamO f F body)) (e2 : H0 F.c = some (CodeO F.c F.qual)) (S : NScope N ps fr F.scope) (hb : ∀ (pm ctv : Value) (us : List Value), us.length = ps.length → bindArgs (PySem.W.kla_fn F.name F.qual F.params body F.scope F.cl pm (.ref F.c) ctv) ⟨us, []⟩ = pure (ps.zip us))
    (len : ∀ vs H Q, sp vs H Q L2.E0 → vs.length = ps.length) (C : CellD D F.cl fr ws)
    (hbody : ∀ (A : Around) (outer : List Env) (s : Shared) (H : Hp) (vs : List V) (Q : VK), Room k (A.deeper (envF F f s.heap.objs.size)) → Dep D outer s H → sp vs H Q L2.E0 →
      ∃ t, PE (ncx L2.CX0 P w K mg base N F f A outer s H L2.E0) body t ∧ t (startF N vs ws) H Q) :
    ∃ EX : Exts, Callee P w K mg base (k + 1) f sp D EX ∧ ExOk EX H0 ∧ ∀ p ∈ EX, ∀ ps, p.2 ≠ HO.tbl ps := by
  refine ⟨[(f, LamO f F body), (F.c, CodeO F.c F.qual)], callee_lam S hb len List.mem_cons_self (List.mem_cons_of_mem _ List.mem_cons_self) C fun A outer s H vs Q hr d _ h => hbody A outer s H vs Q hr d h, fun p hp => ?_, fun p hp ps => ?_⟩
  · rcases List.mem_cons.mp hp with rfl | hp
    · exact e1
    · rcases List.mem_cons.mp hp with rfl | hp
      · exact e2
      · exact absurd hp (by simp)
  · rcases List.mem_cons.mp hp with rfl | hp
    · exact fun z => by
        unfold LamO at z
        cases z
    · rcases List.mem_cons.mp hp with rfl | hp
      · exact codeO_ne ps
      · exact absurd hp (by simp)
end
end KT

namespace KT
open PySem PySem.Spec PyProof.Rows L2
theorem vals_at : ∀ {xs : List V} {us : List Value}, xs.length = us.length → (∀ (i : Nat) (x : V) (u : Value), xs[i]? = some x → us[i]? = some u → L2.RelV x u) → Vals xs us
  | [], [], _, _ => .nil
  | [], _ :: _, h, _ => by simp at h
  | _ :: _, [], h, _ => by simp at h
  | x :: xs, u :: us, h, k => .cons (k 0 x u rfl rfl) (vals_at (by simpa using h) fun i y v e1 e2 => k (i + 1) y v (by simpa using e1) (by simpa using e2))
section
variable {X : Cx}
/-- the signs of a text, one by one -/
def signsV (z : Str) : List V := z.cps.toList.map fun c => V.str ⟨#[c]⟩
/-- list(text) -/
theorem call_listS (hc : X.calm = true) : CallR X (.type "list") (fun xs H Q => ∃ z : Str, xs = [.str z] ∧ z.cps.size ≤ sizeLine ∧ ∀ p, H p = none → Q (.ref p) (upd H p (.lst (signsV z)))) := by
  intro pins s σ H xs us Q I r h
  obtain ⟨z, rfl, hz, q⟩ := h
  obtain ⟨u, rfl, t, rfl⟩ := vals1 r
  refine PySem.call_list_str (I.ok.hd hc) z t (fun h' tk acc c hk e hi => ?_) hz
  have rv : Vals (signsV z) acc.toList := by
    refine vals_at ?_ fun i x u h1 h2 => ?_
    · unfold signsV
      rw [List.length_map, Array.length_toList, Array.length_toList]
      exact hi.1.symm
    · obtain ⟨c, u', hc', rfl⟩ := hi.2 i u (by rw [← h2, Array.getElem?_toList])
      unfold signsV at h1
      rw [List.getElem?_map, Array.getElem?_toList, hc'] at h1
      cases h1
      exact ⟨u', rfl⟩
  refine ⟨.ref s.heap.objs.size, upd H s.heap.objs.size (.lst (signsV z)), I.laid hk (Nat.le_refl _) (show ObjOk X.prog X.w _ _ _ (.lst (signsV z)) from ⟨?_, acc.toList, c, rv, ?_⟩), rfl, q _ (I.hok.fresh (Nat.le_refl _))⟩
  · unfold signsV
    rw [List.length_map, Array.length_toList]
    exact hz
  · rw [Array.toArray_toList]
    exact e
end
end KT

/-! Sets of texts: set(a list of texts), sorted of it. -/
namespace KT
open PySem PySem.Spec PyProof.Rows L2
theorem nodup_len : ∀ (l D : List Str), l.Nodup → (∀ x ∈ l, x ∈ D) → l.length ≤ D.length
  | [], _, _, _ => Nat.zero_le _
  | x :: l, D, h, s => by
    obtain ⟨h1, h2⟩ := List.nodup_cons.mp h
    have hx := s x List.mem_cons_self
    have q := nodup_len l (D.erase x) h2 fun y hy => (List.mem_erase_of_ne (fun e => h1 (by rw [← e]; exact hy))).mpr (s y (List.mem_cons_of_mem _ hy))
    rw [List.length_erase_of_mem hx] at q
    have : 0 < D.length := List.length_pos_of_mem hx
    rw [List.length_cons]
    omega
def keyS (e : Int × Value) : Str := match e.2 with
  | .str k _ => k
  | _ => Str.empty
/-- the texts of ks (some of them told twice) are in the set at a -/
def SetG (P : Program) (w : World) (h : Heap) (a : Addr) (ks : List Str) : Prop :=
  ∃ o es ep t, h.get? a = some o ∧ o.ExactSet ∧ o.data = .set es ep t ∧ (∀ e ∈ es.toList, ∃ k tk, e.2 = Value.str k tk ∧ e.1 = (PySem.strKind P w).hash k) ∧ (es.toList.map keyS).Nodup ∧ (∀ k, k ∈ es.toList.map keyS ↔ k ∈ ks) ∧
    es.size < scanBound ∧ t.fits es.size = true ∧ L2.Ris t.place.toList ∧ (w.params.followText "set-order" = true ∨ t.led = true)
section
variable {P : Program} {w : World} {h h' : Heap} {a : Addr} {ks : List Str}
theorem SetG.at_ (R : SetG P w h a ks) (k : ∀ o, h.get? a = some o → h'.get? a = some o) : SetG P w h' a ks := by
  obtain ⟨o, es, ep, t, ho, r⟩ := R
  exact ⟨o, es, ep, t, k o ho, r⟩
theorem els_of {l : List (Int × Value)} (g : ∀ e ∈ l, ∃ k tk, e.2 = Value.str k tk ∧ e.1 = (PySem.strKind P w).hash k) : ElemsOf (PySem.strKind P w) l := fun e he => by
  obtain ⟨k, tk, h1, h2⟩ := g e he
  exact ⟨⟨k, by rw [h1]; exact strKind_is P w k tk, h2⟩, by rw [h1] <;> rfl⟩
theorem is_key {e : Int × Value} (g : ∃ k tk, e.2 = Value.str k tk ∧ e.1 = (PySem.strKind P w).hash k) (k : Str) : (PySem.strKind P w).is k e.2 = true ↔ keyS e = k := by
  obtain ⟨k0, tk, h1, _⟩ := g
  have hk : (PySem.strKind P w).is k0 e.2 = true := by rw [h1]; exact strKind_is P w k0 tk
  have e0 : keyS e = k0 := by unfold keyS; rw [h1]
  rw [e0]
  constructor
  · intro z
    exact (PySem.strKind P w).inj _ _ _ hk z
  · intro z
    rw [← z]
    exact hk
end
section
variable {P : Program} {w : World} {A : Around} {E : Value → Shared → Prop} {s : Shared} {a : Addr} {ks : List Str}
/-- the end of an addition: the new table is stored, and laid anew where it is too full -/
theorem setG_tail {g : Bool → Sem Unit} (hg : ∀ (b : Bool) (s₁ : Shared) (Q' : Unit → Shared → Prop), Q' () s₁ → wpAny (model P w) A (g b) Q' E s₁)
    {o : Obj} {es : Array (Int × Value)} {ep : Nat} {t : SetTable} (ho : s.heap.get? a = some o) (hex : o.ExactSet) (hd : o.data = .set es ep t)
    {es1 : Array (Int × Value)} {t2 : SetTable} {ks' : List Str} (new : ∀ h' o' es2 ep2 t3, h'.get? a = some o' → o'.ExactSet → o'.data = .set es2 ep2 t3 → es2.toList.Perm es1.toList → t3.fits es2.size = true → L2.Ris t3.place.toList → (w.params.followText "set-order" = true ∨ t3.led = true) → SetG P w h' a ks')
    (hb1 : es1.size < scanBound) (hf2 : t2.fits es1.size = true) (hr : L2.Ris t2.place.toList) (hl : w.params.followText "set-order" = true ∨ t2.led = true) {wasDummy : Bool} {R : Option Bool → Shared → Prop}
    (hR : ∀ h', Heap.SameBut a s.heap h' → SetG P w h' a ks' → R (some true) { s with heap := h' }) :
    wpAny (model P w) A (do
        storeSet a es1 t2
        if (!wasDummy && t2.tooFull) = true then do
            g (relayAll t2 es1 (SetTable.grown es1.size)).2.2
            storeSet a (relayAll t2 es1 (SetTable.grown es1.size)).1 (relayAll t2 es1 (SetTable.grown es1.size)).2.1
            pure (some true)
          else pure (some true)) R E s := by
  refine wpAny_bind (wpAny_storeSet_of ho hd ?_ (fits_of_scanBound hb1))
  have ho1 := store_at (es' := es1) (t' := t2) ho hd
  have sb1 := Heap.SameBut.update s.heap a (Obj.putSet es1 t2)
  split
  · have pm := relayAll_perm t2 es1 (SetTable.grown es1.size)
    have hf3 := relayAll_fits t2 es1 (SetTable.grown es1.size)
    have hr3 := relayAll_ris t2 es1 (SetTable.grown es1.size)
    have hl3 := relayAll_led t2 es1 (SetTable.grown es1.size)
    generalize relayAll t2 es1 (SetTable.grown es1.size) = Z at pm hf3 hr3 hl3 ⊢
    obtain ⟨es2, t3, gave⟩ := Z
    dsimp only at pm hf3 hr3 hl3 ⊢
    have hsz : es2.size = es1.size := by rw [← Array.length_toList, pm.length_eq, Array.length_toList]
    refine wpAny_bind (hg _ _ _ ?_)
    refine wpAny_bind (wpAny_storeSet_of ho1 rfl ?_ (fits_of_scanBound (by rw [hsz]; exact hb1)))
    have ho2 := store_at (es' := es2) (t' := t3) ho1 rfl
    exact wpAny_pure (hR _ (sb1.trans (Heap.SameBut.update _ a _)) (new _ _ es2 _ t3 ho2 hex rfl pm hf3 hr3 (hl.imp id fun z => by rw [hl3]; exact z)))
  · exact wpAny_pure (hR _ sb1 (new _ _ es1 _ t2 ho1 hex rfl (.refl _) hf2 hr hl))
theorem setG_add {k : Str} {tk : Tok} {Q : Bool → Shared → Prop} (R : SetG P w s.heap a ks) (room : ks.length + 2 < scanBound)
    (hQ : ∀ h' b, Heap.SameBut a s.heap h' → SetG P w h' a (ks ++ [k]) → Q b { s with heap := h' }) :
    wpAny (model P w) A (setAddHashed a (.str k tk) ((PySem.strKind P w).hash k)) Q E s := by
  obtain ⟨o, es, ep, t, ho, hex, hd, g, nd, hm, hb, hf, hr, hl⟩ := R
  have hkey : (PySem.strKind P w).is k (.str k tk) = true := strKind_is P w k tk
  have hsc : (Value.str k tk).scannable = true := rfl
  have hel : ElemsOf (PySem.strKind P w) es.toList := els_of g
  have hkm : k ∈ es.toList.map keyS ↔ ∃ e ∈ es.toList, (PySem.strKind P w).is k e.2 = true := by
    rw [List.mem_map]
    exact ⟨fun ⟨e, he, q⟩ => ⟨e, he, (is_key (g e he) k).2 q⟩, fun ⟨e, he, q⟩ => ⟨e, he, (is_key (g e he) k).1 q⟩⟩
  unfold setAddHashed setAddHashedIn
  refine wpAny_holding (wpAny_bind (wpAny_setState_of ho hd hf ?_))
  dsimp only
  rw [byScan_of hsc hb hel]
  simp only [↓reduceIte]
  unfold setAddByScan
  refine wpAny_bind ?_
  refine wpAny_bind (wpAny_rule ?_)
  refine wpAny_bind (wpAny_setScan_of hkey ho hd hf hel ?_)
  cases hfi : List.findIdx? (fun e => (PySem.strKind P w).is k e.2) es.toList with
  | some j =>
    dsimp only
    obtain ⟨hj, pj, _⟩ := List.findIdx?_eq_some_iff_getElem.mp hfi
    have hk : k ∈ ks := (hm k).1 (hkm.2 ⟨es.toList[j], List.getElem_mem hj, pj⟩)
    refine wpAny_pure (wpAny_pure ?_)
    exact hQ s.heap _ (Heap.SameBut.refl a s.heap) ⟨o, es, ep, t, ho, hex, hd, g, nd, fun i => by
      rw [hm i, List.mem_append, List.mem_singleton]
      exact ⟨.inl, fun z => z.elim id fun e => e ▸ hk⟩, hb, hf, hr, hl⟩
  | none =>
    dsimp only
    have hnk : k ∉ es.toList.map keyS := fun z => by
      obtain ⟨e, he, q⟩ := hkm.1 z
      have c := List.findIdx?_eq_none_iff.mp hfi e he
      rw [q] at c
      cases c
    have hgw : ∀ (b : Bool) {s₁ : Shared} {Q' : Unit → Shared → Prop}, Q' () s₁ → wpAny (model P w) A (match b with | true => rule "set.scan.the-table-gave-way" | false => pure ()) Q' E s₁ :=
      fun b s₁ Q' q => by cases b <;> first | exact wpAny_pure q | exact wpAny_rule q
    have pm := layNew_perm t es ((PySem.strKind P w).hash k) (.str k tk)
    have hf1 := layNew_fits t es ((PySem.strKind P w).hash k) (.str k tk)
    have hr1 := layNew_ris t es ((PySem.strKind P w).hash k) (.str k tk) hr
    have hl1 := layNew_led t es ((PySem.strKind P w).hash k) (.str k tk)
    generalize layNew t es ((PySem.strKind P w).hash k) (.str k tk) = Z at pm hf1 hr1 hl1 ⊢
    obtain ⟨es1, t1, wasDummy, gave⟩ := Z
    dsimp only at pm hf1 hr1 hl1 ⊢
    rw [Array.toList_push] at pm
    have pc : es1.toList.Perm (((PySem.strKind P w).hash k, Value.str k tk) :: es.toList) := pm.trans (List.perm_append_singleton _ _)
    have hlen : (es.toList.map keyS).length ≤ ks.length := nodup_len _ _ nd fun x hx => (hm x).1 hx
    have hes : es1.size = es.size + 1 := by rw [← Array.length_toList, pc.length_eq, List.length_cons, Array.length_toList]
    have hle : es.size ≤ ks.length := by rw [List.length_map, Array.length_toList] at hlen; exact hlen
    have hb1 : es1.size < scanBound := by rw [hes]; omega
    have hled : w.params.followText "set-order" = true ∨ t1.led = true := hl.imp id fun z => by rw [hl1]; exact z
    have new : ∀ h' o' es2 ep2 t3, h'.get? a = some o' → o'.ExactSet → o'.data = .set es2 ep2 t3 → es2.toList.Perm es1.toList → t3.fits es2.size = true → L2.Ris t3.place.toList → (w.params.followText "set-order" = true ∨ t3.led = true) → SetG P w h' a (ks ++ [k]) := by
      intro h' o' es2 ep2 t3 e1 e2 e3 p f r l
      have pa := p.trans pc
      have pk : (es2.toList.map keyS).Perm (k :: es.toList.map keyS) := pa.map keyS
      refine ⟨o', es2, ep2, t3, e1, e2, e3, fun e he => ?_, pk.nodup_iff.mpr (List.nodup_cons.mpr ⟨hnk, nd⟩), fun i => ?_, ?_, f, r, l⟩
      · rcases List.mem_cons.mp (pa.mem_iff.mp he) with z | z
        · rw [z]; exact ⟨k, tk, rfl, rfl⟩
        · exact g e z
      · rw [pk.mem_iff, List.mem_cons, hm i, List.mem_append, List.mem_singleton]
        exact Or.comm
      · have : es2.size = es1.size := by rw [← Array.length_toList, p.length_eq, Array.length_toList]
        rw [this]
        exact hb1
    refine wpAny_bind (hgw _ ?_)
    split
    · refine wpAny_bind ?_
      rw [hashByValue_scannable 8 hsc]
      refine wpAny_pure ?_
      refine setG_tail (ks' := ks ++ [k]) ?_ ho hex hd new hb1 ?_ ?_ ?_ ?_
      · intro b s₁ Q' q; cases b <;> first | exact wpAny_pure q | exact wpAny_rule q
      · first | (split <;> first | exact hf1 | exact SetTable.fits_plain_off hf1) | exact hf1
      · first | (split <;> exact hr1) | exact hr1
      · first | (split <;> exact hled) | exact hled
      · intro h' sb r; dsimp only; exact wpAny_pure (hQ h' _ sb r)
    · refine wpAny_bind (wpAny_pure ?_)
      simp only [↓reduceIte]
      refine setG_tail (ks' := ks ++ [k]) ?_ ho hex hd new hb1 hf1 hr1 hled ?_
      · intro b s₁ Q' q; cases b <;> first | exact wpAny_pure q | exact wpAny_rule q
      · intro h' sb r; dsimp only; exact wpAny_pure (hQ h' _ sb r)
theorem setG_fresh {h : Heap} (ho : h.get? a = some { cls := .type "set", dict := none, data := .set #[] 0 (.fresh 0 0 (!w.params.followText "set-order")) }) : SetG P w h a [] :=
  ⟨_, #[], 0, _, ho, ⟨rfl, rfl, rfl⟩, rfl, (fun e he => by simp at he), (by simp), (fun k => by simp), (by decide), (by rfl), List.Pairwise.nil, by
    show _ ∨ (!w.params.followText "set-order") = true
    cases w.params.followText "set-order"
    · exact .inr rfl
    · exact .inl rfl⟩
/-- the loop that puts the texts in -/
theorem set_update_strs {I : Addr} {fp wr : List Addr} {G : Array GenState → Array GenState → Prop} {n : Nat} {Pv : Nat → Value → Prop} {St : Nat → Shared → Prop} {R : Result → Shared → Prop}
    (W : WalksS P w A.in1 I fp wr G n Pv St) (S : Addr) (hSf : S ∉ fp) (xs : List Str) (hn : n = xs.length) (hfew : xs.length + 2 < scanBound) (hval : ∀ i v, Pv i v → ∃ t, v = .str (xs.getD i Str.empty) t) :
    ∀ (k i : Nat) (s : Shared), n - i = k → i ≤ n → St i s → SetG P w s.heap S (xs.take i) →
      (∀ s', Moved (S :: wr) G s s' → SetG P w s'.heap S xs → R (.ok (.ret .none)) s') →
      codeAny (model P w) A (.builtin "set.update.loop" ⟨[.ref S, .ref I], []⟩) R s := by
  have hSw : S ∉ wr := fun h => hSf (W.sub _ h)
  have hsub : ∀ b ∈ wr, b ∈ S :: wr := fun b hb => List.mem_cons_of_mem _ hb
  intro k
  induction k with
  | zero =>
    intro i s hk hi hst hS hR
    have hin : i = n := by omega
    subst hin
    refine codeAny_builtin PyProof.Rows.F.entry_set_update_loop ?_
    rw [Around.under_plainId PyProof.Rows.F.plain_set_update_loop _]
    show wpAny _ A.in1 (pyNext (.ref I) >>= _) _ _ s
    refine wpAny_bind (W.done s _ _ hst fun s' hm => ?_)
    show wpAny _ A.in1 (ret Value.none) _ _ s'
    rw [hn, List.take_length] at hS
    exact wpAny_pure (hR s' (hm.mono hsub) (hS.at_ fun o e => hm.heap S o hSw e))
  | succ k ih =>
    intro i s hk hi hst hS hR
    have hlt : i < n := by omega
    refine codeAny_builtin PyProof.Rows.F.entry_set_update_loop ?_
    rw [Around.under_plainId PyProof.Rows.F.plain_set_update_loop _]
    show wpAny _ A.in1 (pyNext (.ref I) >>= _) _ _ s
    refine wpAny_bind (W.item i s _ _ hlt hst fun v s' hP hst' hm => ?_)
    obtain ⟨t, rfl⟩ := hval i v hP
    have hS' : SetG P w s'.heap S (xs.take i) := hS.at_ fun o e => hm.heap S o hSw e
    show wpAny _ A.in1 (holding [Value.str (xs.getD i Str.empty) t] (setAdd S (.str (xs.getD i Str.empty) t)) >>= _) _ _ s'
    refine wpAny_bind (wpAny_holding ?_)
    unfold setAdd
    refine wpAny_holding ?_
    refine wpAny_bind ((PySem.strKind P w).pyHash (k := xs.getD i Str.empty) (strKind_is _ _ _ _) ?_)
    refine setG_add (s := { s' with toks := s'.toks + 1 }) hS' (by rw [List.length_take]; omega) fun h' b hsb hS2 => ?_
    have et : xs.take i ++ [xs.getD i Str.empty] = xs.take (i + 1) := by
      rw [List.take_add_one]
      have q : xs[i]? = some (xs.getD i Str.empty) := by
        have l : i < xs.length := by omega
        simp [List.getD, l]
      rw [q]
      rfl
    rw [et] at hS2
    refine wpAny_pure ⟨plainId_quiet PyProof.Rows.F.plain_set_update_loop _, ih (i + 1) _ (by omega) hlt (W.frame _ s' _ _ hst' (Nat.le_succ _) fun b hb o e => ?_) hS2 fun s'' hm'' hS'' => ?_⟩
    · rw [hsb.2 b (fun h : b = S => hSf (by rw [← h]; exact hb))]; exact e
    · refine hR s'' (Moved.trans W.gtrans ((hm.mono hsub).then_heap (Nat.le_succ _) fun b o hb e => ?_) hm'') hS''
      rw [hsb.2 b (fun h : b = S => hb (by rw [h]; exact List.mem_cons_self))]; exact e
set_option maxHeartbeats 3200000 in
/-- set(a list of texts) -/
theorem call_set_strs {l : Addr} {items : Array Value} {xs : List Str} {Q : Value → Shared → Prop} (hh : A.handled = none) (hl : s.heap.IsList l items) (hi : PyProof.Rows.StrsAre items.toList xs) (hfew : xs.length + 2 < scanBound)
    (h : ∀ (h' : Heap) (tk : Nat), SetG P w h' s.heap.objs.size xs → (∀ b o, s.heap.get? b = some o → h'.get? b = some o) → Q (.ref s.heap.objs.size) { s with heap := h', toks := tk }) :
    wpAny (model P w) A (call (.type "set") [.ref l]) Q E s := by
  obtain ⟨c, tl, hmro⟩ := PySem.F.called_set.mro
  have hmade := PySem.F.called_set.made
  have hsub := PySem.F.called_set.sub
  refine wpAny_call (codeAny_of_tree ?_)
  show wpAny _ _ (callAny (.type "set") _) _ _ _
  refine wpAny_pure ⟨Code.quiet_builtin _ (by decide +kernel), codeAny_builtin PySem.F.entry_type_call ?_⟩
  rw [Around.under_plain (weight_type_call_type "set" [.ref l] []) rfl]
  have h1 := PySem.F.called_set.notType
  have h2 := PySem.F.called_set.canCreate
  have hct := PySem.F.typeCall_set_1 (.ref l)
  repeat (any_goals (first | assumption | wp_step))

  refine codeAny_mono (L2.code_set_led1 (.ref l) (E := E) (Q₁ := fun obj s₁ => obj = .ref s.heap.objs.size ∧ s₁ = { s with heap := s.heap.push { cls := .type "set", dict := none, data := .set #[] 0 (.fresh 0 0 (!w.params.followText "set-order")) } }) ⟨rfl, rfl⟩) fun r s₁ hr => ?_
  match r, hr with
  | .error e, hr => exact hr
  | .ok .next, hr => exact hr.elim
  | .ok .brk, hr => exact hr.elim
  | .ok .cont, hr => exact hr.elim
  | .ok (.ret obj), hr =>
      obtain ⟨rfl, rfl⟩ := hr
      have hS : (s.heap.push { cls := .type "set", dict := none, data := .set #[] 0 (.fresh 0 0 (!w.params.followText "set-order")) }).get? s.heap.objs.size = some { cls := .type "set", dict := none, data := .set #[] 0 (.fresh 0 0 (!w.params.followText "set-order")) } := Heap.get?_push_size _ rfl
      have hT : Shared.TypeIs { s with heap := s.heap.push { cls := .type "set", dict := none, data := .set #[] 0 (.fresh 0 0 (!w.params.followText "set-order")) } } (.ref s.heap.objs.size) "set" := ⟨_, hS, rfl⟩
      have hli := PySem.F.called_set.init.lookup
      have hbi := PySem.F.called_set.init.bind (.ref s.heap.objs.size)
      repeat (any_goals (first | assumption | wp_step))

      refine codeAny_mono (codeAny_call_builtin (R := wants (fun r s₂ => r = .none ∧ ∃ h' tk, s₂ = { s with heap := h', toks := tk } ∧ SetG P w h' s.heap.objs.size xs ∧ (∀ b o, s.heap.get? b = some o → h'.get? b = some o)) E)
        PySem.F.called_set.init.plain PySem.F.entry_set_init (check_set_init_1 hT ?_)) fun r₂ s₂ hr₂ => ?_
      · obtain ⟨ol, hol, hcl, nl, hdl⟩ := hl
        obtain ⟨ocls, odict, odata, oslots⟩ := ol
        simp only at hcl hdl
        subst hcl; subst hdl
        have hol' : (s.heap.push { cls := .type "set", dict := none, data := .set #[] 0 (.fresh 0 0 (!w.params.followText "set-order")) }).get? l = some { cls := .type "list", dict := odict, data := .seq items nl, slots := oslots } := Heap.get?_push_of_some _ hol
        have hsls := PySem.F.sub_list_set
        have hslf := PySem.F.sub_list_frozenset
        have hne : (Value.type "list" == Value.type "dict") = false := by decide
        have hl1 : (s.heap.push { cls := .type "set", dict := none, data := .set #[] 0 (.fresh 0 0 (!w.params.followText "set-order")) }).IsList l items := ⟨_, hol', rfl, nl, rfl⟩
        unfold Builtin.«set.__init__» noKeywords Builtin.Frozenset.updateFrom
        generalize hPI : pyIter = PI
        wp_walk
        subst hPI

        refine wpAny_pyIter_list hl1 ?_
        refine wpAny_bind (wpAny_runValue ?_)
        have hlS : l < s.heap.objs.size := Heap.lt_size hol
        have hh3 : A.in1.in1.in1.handled = none := by simp [hh]
        have hneI : l ≠ (s.heap.push { cls := .type "set", dict := none, data := .set #[] 0 (.fresh 0 0 (!w.params.followText "set-order")) }).objs.size := by
          rw [Heap.size_push]; exact Nat.ne_of_lt (Nat.lt_succ_of_lt hlS)
        have hSf : s.heap.objs.size ∉ [(s.heap.push { cls := .type "set", dict := none, data := .set #[] 0 (.fresh 0 0 (!w.params.followText "set-order")) }).objs.size, l] := by
          rw [Heap.size_push]; simp only [List.mem_cons, List.mem_singleton, List.not_mem_nil, or_false, not_or]
          exact ⟨Nat.ne_of_lt (Nat.lt_succ_self _), Nat.ne_of_gt hlS⟩
        have hsz : xs.length = items.size := by rw [← StrsAre.len_eq hi, Array.length_toList]
        have hval : ∀ (i : Nat) (v : Value), items[i]? = some v → ∃ t, v = .str (xs.getD i Str.empty) t := fun i v hv => SS.strs_at hi i v (by rw [Array.getElem?_toList]; exact hv)
        refine set_update_strs ((Walks.list hh3 _ l hneI items).toS) s.heap.objs.size
          hSf xs hsz.symm hfew hval (items.size - 0) 0 _ (by omega) (Nat.zero_le _)
          ⟨⟨_, Heap.get?_push_size _ rfl, rfl, rfl⟩, (hl1.push _)⟩ ?hS0 ?hR
        case hS0 =>
          exact setG_fresh (Heap.get?_push_of_some _ hS)
        case hR =>
          intro s' hm hS'
          obtain ⟨h', g', d', tk', os'⟩ := s'
          have eg : g' = s.gens := hm.gens
          have ed : d' = s.drawn := hm.drawn
          have eo : os' = s.os := hm.os
          subst eg; subst ed; subst eo
          show wpAny _ _ _ _ _ _
          refine wpAny_pure ?_
          show wpAny _ _ (ret Value.none) _ _ _
          refine wpAny_pure ⟨rfl, h', tk', rfl, hS', fun b o e => ?_⟩
          have hb := Heap.lt_size e
          have hb1 : b ≠ s.heap.objs.size := Nat.ne_of_lt hb
          have hb2 : b ≠ (s.heap.push { cls := .type "set", dict := none, data := .set #[] 0 (.fresh 0 0 (!w.params.followText "set-order")) }).objs.size := by
            rw [Heap.size_push]; exact Nat.ne_of_lt (Nat.lt_succ_of_lt hb)
          exact hm.heap b o (by simp only [List.mem_cons, List.mem_singleton, List.not_mem_nil, or_false, not_or]; exact ⟨hb1, hb2⟩) (Heap.get?_push_of_some _ (Heap.get?_push_of_some _ e))
      · match r₂, hr₂ with
        | .error e, hr₂ => exact hr₂
        | .ok .next, hr₂ => exact hr₂.elim
        | .ok .brk, hr₂ => exact hr₂.elim
        | .ok .cont, hr₂ => exact hr₂.elim
        | .ok (.ret r), hr₂ =>
          obtain ⟨rfl, h', tk, rfl, hS', hk'⟩ := hr₂
          repeat (any_goals (first | assumption | wp_step))
          exact h _ _ hS' hk'
end
end KT

namespace KT
open PySem PySem.Spec PyProof.Rows L2
section
variable {P : Program} {w : World} {A : Around} {E : Value → Shared → Prop} {s : Shared} {a : Addr} {ks : List Str}
theorem strs_of : ∀ (l : List Value), (∀ v ∈ l, ∃ k tk, v = Value.str k tk) → StrsAre l (l.map fun v => keyS (0, v))
  | [], _ => .nil
  | v :: l, h => by
    obtain ⟨k, tk, rfl⟩ := h v List.mem_cons_self
    exact .cons k tk (strs_of l fun u hu => h u (List.mem_cons_of_mem _ hu))
/-- sorted(a set of texts) -/
theorem sorted_setG {Q : Value → Shared → Prop} (R : SetG P w s.heap a ks) (hh : A.handled = none)
    (hQ : ∀ s' p (out : Array Value) (c : Nat) (ys : List Str), (∀ b o, s.heap.get? b = some o → s'.heap.get? b = some o) → s'.gens = s.gens → s'.os = s.os → s.heap.objs.size ≤ p →
      s'.heap.get? p = some (seqObj "list" out c) → StrsAre out.toList ys → sortedS ys = true → ys.Nodup → (∀ k, k ∈ ys ↔ k ∈ ks) → ys.length ≤ 4096 → Q (.ref p) s') :
    wpAny (model P w) A (call (.builtin "sorted") [.ref a]) Q E s := by
  obtain ⟨o, es, ep, t, ho, hex, hd, g, nd, hm, hb, hf, hr, hl⟩ := R
  refine Calls.call_function_entry kind_sorted plain_sorted entry_sorted (args_sorted1 _) ?_
  unfold Builtin.«sorted»
  refine wpAny_bind (m := checkCount "sorted" 1 1 _) (wpAny_pure ?_)
  refine wpAny_bind (collect_set (A := A.in1) hh ⟨o, ho, hex.1, hd⟩ hf hb hr hl fun s1 vs k1 hz g1 o1 pm => ?_)
  have hvl : vs.length = es.size := by rw [pm.length_eq, List.length_map, Array.length_toList]
  have hb' : es.size < 4096 := hb
  have hS : StrsAre vs (vs.map fun v => keyS (0, v)) := strs_of vs fun v hv => by
    obtain ⟨e, he, q⟩ := List.mem_map.mp (pm.mem_iff.mp hv)
    obtain ⟨k, tk, h1, _⟩ := g e he
    exact ⟨k, tk, by rw [← q]; exact h1⟩
  have pk : (vs.map fun v => keyS (0, v)).Perm (es.toList.map keyS) := by
    have q := pm.map fun v => keyS (0, v)
    rw [List.map_map] at q
    exact q
  refine wpAny_bind (wpAny_newList ?_ (by rw [hvl, sizeLine_eq]; omega))
  have hoL : (s1.heap.push (seqObj "list" vs.toArray 0)).get? s1.heap.objs.size = some (seqObj "list" vs.toArray 0) := Heap.get?_push_size _ rfl
  refine wpAny_bind (wpAny_holding (wpAny_call_entry slot_list_sort ⟨_, hoL, rfl⟩ entry_list_sort (list_sort_treeKAny strKind_oneLt hoL hS.keysOf (fun v₁ v₂ rest e => keyKind_strs (by rw [← e]; exact hS)) (by rw [hvl, sizeLine_eq]; omega) fun st' hp hs => ⟨_, rfl, ?_⟩) (args_list_sort _)))
  obtain ⟨ys, a1, a2, a3⟩ := sorted_out_str hS hp hs
  obtain ⟨c, hc⟩ := sortedHeap_at (vs := vs) (out := (arrOf st').map (·.2)) hoL
  have pn : ys.Perm (es.toList.map keyS) := a2.trans pk
  refine wpAny_pure ⟨_, rfl, hQ _ s1.heap.objs.size _ c ys (fun b u e => ?_) g1 o1 hz hc a1 a3 (pn.nodup_iff.mpr nd) (fun k => by rw [pn.mem_iff, hm k]) ?_⟩
  · have q := k1 b u e
    have hlt := Heap.lt_size q
    show (sortedHeap (s1.heap.push (seqObj "list" vs.toArray 0)) s1.heap.objs.size vs _).get? b = some u
    rw [sortedHeap_old (Nat.ne_of_lt hlt) (by rw [size_push']; exact Nat.lt_succ_of_lt hlt)]
    exact Heap.get?_push_of_some _ q
  · rw [pn.length_eq, List.length_map, Array.length_toList]
    omega
end
/-- the set of texts at a -/
def SetGO (P : Program) (w : World) (a : Addr) (ks : List Str) : HO := .ext fun h => SetG P w h a ks
section
variable {X : Cx}
theorem setGO_new {w : World} {P : Program} {H : Hp} {h : Heap} {a : Addr} {ks : List Str} (R : SetG P w h a ks) : ObjOk P w H h a (SetGO P w a ks) := by
  have ⟨o, _, _, _, ho, _⟩ := R
  exact ⟨R, ⟨o, ho⟩, fun h1 h2 p k => SetG.at_ p k⟩
/-- set(xs), texts -/
theorem cr_setG (hc : X.calm = true) : CallR X (.type "set") (fun vs H Q => ∃ (l : Addr) (xs : List Str), vs = [.ref l] ∧ SqL X.K H l (xs.map V.str) ∧ xs.length ≤ 4000 ∧ ∀ p, H p = none → Q (.ref p) (upd H p (SetGO X.prog X.w p xs))) := by
  intro pins s σ H vs us Q I r h
  obtain ⟨l, xs, rfl, hs, hz, q⟩ := h
  obtain ⟨its, rv, hl, _⟩ := I.list hs
  rw [Vals.ref1 r]
  refine call_set_strs (I.ok.hd hc) hl.isList rv.strs (by show xs.length + 2 < 4096; omega) fun h' tk R hk => ?_
  exact ⟨.ref s.heap.objs.size, upd H s.heap.objs.size (SetGO X.prog X.w s.heap.objs.size xs), I.laid (t' := tk) hk (Nat.le_refl _) (setGO_new R), rfl, q _ (I.hok.fresh (Nat.le_refl _))⟩
/-- sorted(a set of texts) -/
theorem cr_sortedG (hc : X.calm = true) : CallR X (.builtin "sorted") (fun vs H Q => ∃ (a : Addr) (ks : List Str), vs = [.ref a] ∧ H a = some (SetGO X.prog X.w a ks) ∧
    ∀ (ys : List Str) (p : Addr), sortedS ys = true → ys.Nodup → (∀ k, k ∈ ys ↔ k ∈ ks) → H p = none → Q (.ref p) (upd H p (.lst (ys.map V.str)))) := by
  intro pins s σ H vs us Q I r h
  obtain ⟨a, ks, rfl, ha, q⟩ := h
  have R : SetG X.prog X.w s.heap a ks := (I.hok a _ ha).1
  rw [Vals.ref1 r]
  refine sorted_setG R (I.ok.hd hc) fun s' p out c ys k g o hp hg hi hs hn hm hl => ?_
  have hlen : (ys.map V.str).length ≤ sizeLine := by rw [List.length_map, sizeLine_eq]; omega
  have hn' : H p = none := I.hok.fresh hp
  have J : Inv X pins σ (upd H p (.lst (ys.map V.str))) { s with heap := s'.heap, gens := s'.gens, drawn := s'.drawn, toks := s'.toks } :=
    I.call (ch := []) (Un.laid k hp hn') (I.hok.laid k hp ⟨hlen, out.toList, c, vals_of_strs hi, hg⟩) (by rw [g]; exact I.bare) (fun _ z => nomatch z)
  have e : s' = { s with heap := s'.heap, gens := s'.gens, drawn := s'.drawn, toks := s'.toks } := by
    cases s'
    cases s
    cases o
    rfl
  rw [e]
  exact ⟨.ref p, _, J, rfl, q ys p hs hn hm hn'⟩
end
end KT

/-! Comprehensions of four clauses. -/
namespace KT
open PySem PySem.Spec PyProof.Rows L2
abbrev lc4 (elt t0 i0 t1 i1 t2 i2 t3 i3 : Expr) (f0 f1 f2 f3 : List Expr) (scope : Scope) (pos : Pos) : Expr := .ListComp elt [⟨t0, i0, f0, 0⟩, ⟨t1, i1, f1, 0⟩, ⟨t2, i2, f2, 0⟩, ⟨t3, i3, f3, 0⟩] scope pos

theorem turn4_0 (elt t0 i0 t1 i1 t2 i2 t3 i3 : Expr) (f0 f1 f2 f3 : List Expr) (scope : Scope) (pos : Pos) (it acc : Value) (env : Env) :
    compTurn (lc4 elt t0 i0 t1 i1 t2 i2 t3 i3 f0 f1 f2 f3 scope pos) 0 it acc env = (do
      standAt i0.pos
      match ← pyNext it with
      | none => pure (.done .next)
      | some v =>
        letOwnedTupleGo t0 it v
        assign t0 env v
        let mut ok := true
        for c in f0 do
          if ok then ok ← isTrue c env (eval c env)
        if ok then
          let x ← eval i1 env
          standAt i1.pos
          let x ← foldedSetIterable i1 env x
          let _ ← runOwn (.compStart (lc4 elt t0 i0 t1 i1 t2 i2 t3 i3 f0 f1 f2 f3 scope pos) 1 (← holding [x] (pyIter x)) acc env) env
        again (.compLoop (lc4 elt t0 i0 t1 i1 t2 i2 t3 i3 f0 f1 f2 f3 scope pos) 0 it acc env)) := by rfl

theorem turn4_1 (elt t0 i0 t1 i1 t2 i2 t3 i3 : Expr) (f0 f1 f2 f3 : List Expr) (scope : Scope) (pos : Pos) (it acc : Value) (env : Env) :
    compTurn (lc4 elt t0 i0 t1 i1 t2 i2 t3 i3 f0 f1 f2 f3 scope pos) 1 it acc env = (do
      standAt i1.pos
      match ← pyNext it with
      | none => pure (.done .next)
      | some v =>
        letOwnedTupleGo t1 it v
        assign t1 env v
        let mut ok := true
        for c in f1 do
          if ok then ok ← isTrue c env (eval c env)
        if ok then
          let x ← eval i2 env
          standAt i2.pos
          let x ← foldedSetIterable i2 env x
          let _ ← runOwn (.compStart (lc4 elt t0 i0 t1 i1 t2 i2 t3 i3 f0 f1 f2 f3 scope pos) 2 (← holding [x] (pyIter x)) acc env) env
        again (.compLoop (lc4 elt t0 i0 t1 i1 t2 i2 t3 i3 f0 f1 f2 f3 scope pos) 1 it acc env)) := by rfl

theorem turn4_2 (elt t0 i0 t1 i1 t2 i2 t3 i3 : Expr) (f0 f1 f2 f3 : List Expr) (scope : Scope) (pos : Pos) (it acc : Value) (env : Env) :
    compTurn (lc4 elt t0 i0 t1 i1 t2 i2 t3 i3 f0 f1 f2 f3 scope pos) 2 it acc env = (do
      standAt i2.pos
      match ← pyNext it with
      | none => pure (.done .next)
      | some v =>
        letOwnedTupleGo t2 it v
        assign t2 env v
        let mut ok := true
        for c in f2 do
          if ok then ok ← isTrue c env (eval c env)
        if ok then
          let x ← eval i3 env
          standAt i3.pos
          let x ← foldedSetIterable i3 env x
          let _ ← runOwn (.compStart (lc4 elt t0 i0 t1 i1 t2 i2 t3 i3 f0 f1 f2 f3 scope pos) 3 (← holding [x] (pyIter x)) acc env) env
        again (.compLoop (lc4 elt t0 i0 t1 i1 t2 i2 t3 i3 f0 f1 f2 f3 scope pos) 2 it acc env)) := by rfl

theorem turn4_3 (elt t0 i0 t1 i1 t2 i2 t3 i3 : Expr) (f0 f1 f2 f3 : List Expr) (scope : Scope) (pos : Pos) (it acc : Value) (env : Env) :
    compTurn (lc4 elt t0 i0 t1 i1 t2 i2 t3 i3 f0 f1 f2 f3 scope pos) 3 it acc env = (do
      standAt i3.pos
      match ← pyNext it with
      | none => pure (.done .next)
      | some v =>
        letOwnedTupleGo t3 it v
        assign t3 env v
        let mut ok := true
        for c in f3 do
          if ok then ok ← isTrue c env (eval c env)
        if ok then
          (do let _ ← call (.builtin "list.append") [acc, ← eval elt env])
        again (.compLoop (lc4 elt t0 i0 t1 i1 t2 i2 t3 i3 f0 f1 f2 f3 scope pos) 3 it acc env)) := by rfl

section
variable {prog : Program} {w : World} {A : Around} {R : Result → Shared → Prop} {s : Shared} {elt t0 i0 t1 i1 t2 i2 t3 i3 : Expr} {f0 f1 f2 f3 : List Expr} {scope : Scope} {pos : Pos} {it acc : Value} {env : Env}

theorem loop4_0 (hs : ∀ x, foldedSetIterable i1 env x = pure x) (I : Nat → Shared → Prop)
    (turn : ∀ n s, I n s → wpAny (model prog w) A (pyNext it) (fun r s₁ => match r with
      | none => R (.ok .next) s₁
      | some v => wpAny (model prog w) A (letOwnedTupleGo t0 it v) (fun _ s₁' => wpAny (model prog w) A (assign t0 env v) (fun _ s₂ =>
          wpAny (model prog w) A (forIn f0 true fun c r => if r = true then do let ok ← isTrue c env (eval c env); pure (ForInStep.yield ok) else pure (ForInStep.yield r)) (fun ok s₃ =>
            if ok = true then wpAny (model prog w) A (eval i1 env) (fun x s₄ => wpAny (model prog w) A (pyIter x) (fun it1 s₅ =>
              codeAny (model prog w) A (.compStart (lc4 elt t0 i0 t1 i1 t2 i2 t3 i3 f0 f1 f2 f3 scope pos) 1 it1 acc env) (fun r s' => match r with
                | .ok _ => ∃ m, m < n ∧ I m s'
                | .error _ => False) s₅) (notedBy (model prog w) A env fun e s' => R (.error e) s') s₄) (notedBy (model prog w) A env fun e s' => R (.error e) s') s₃
            else ∃ m, m < n ∧ I m s₃) (notedBy (model prog w) A env fun e s' => R (.error e) s') s₂) (notedBy (model prog w) A env fun e s' => R (.error e) s') s₁') (notedBy (model prog w) A env fun e s' => R (.error e) s') s₁) (notedBy (model prog w) A env fun e s' => R (.error e) s') s)
    (n : Nat) (h : I n s) :
    codeAny (model prog w) A (.compLoop (lc4 elt t0 i0 t1 i1 t2 i2 t3 i3 f0 f1 f2 f3 scope pos) 0 it acc env) R s := by
  refine codeAny_loop rfl I (fun n s hI => ?_) n h
  show wpAny _ A ((compTurn (lc4 elt t0 i0 t1 i1 t2 i2 t3 i3 f0 f1 f2 f3 scope pos) 0 it acc env).onRaise (fun x => do noteFrame x env; theTreesLotGoes x)) _ _ s
  refine wpAny_noted ?_
  rw [turn4_0]
  refine wpAny_bind (wpAny_standAt (wpAny_bind (wpAny_mono (turn n s hI) (fun r s₁ h₁ => ?_) fun _ _ h' => h')))
  cases r with
  | none => exact wpAny_pure h₁
  | some v =>
    refine wpAny_bind (wpAny_mono h₁ (fun _ s₁' h₁' => ?_) fun _ _ h' => h')
    refine wpAny_bind (wpAny_mono h₁' (fun _ s₂ h₂ => wpAny_bind (wpAny_mono h₂ (fun ok s₃ h₃ => ?_) fun _ _ h' => h')) fun _ _ h' => h')
    cases ok with
    | false => exact wpAny_pure ⟨rfl, h₃⟩
    | true =>
      refine wpAny_bind (wpAny_mono h₃ (fun x s₄ h₄ => ?_) fun _ _ h' => h')
      refine wpAny_bind (wpAny_standAt (wpAny_bind (wpAny_of_eq (hs x) (wpAny_bind (wpAny_holding (wpAny_mono h₄ (fun it1 s₅ h₅ => ?_) fun _ _ h' => h'))))))
      refine wpAny_bind (wpAny_runOwn ?_)
      rw [Around.mark_none]
      refine codeAny_mono h₅ fun r s' hr => ?_
      cases r with
      | ok f =>
        first
          | exact wpAny_pure ⟨rfl, hr⟩
          | exact wpAny_bind (wpAny_pure (wpAny_pure ⟨rfl, hr⟩))
      | error e => exact hr.elim

theorem loop4_1 (hs : ∀ x, foldedSetIterable i2 env x = pure x) (I : Nat → Shared → Prop)
    (turn : ∀ n s, I n s → wpAny (model prog w) A (pyNext it) (fun r s₁ => match r with
      | none => R (.ok .next) s₁
      | some v => wpAny (model prog w) A (letOwnedTupleGo t1 it v) (fun _ s₁' => wpAny (model prog w) A (assign t1 env v) (fun _ s₂ =>
          wpAny (model prog w) A (forIn f1 true fun c r => if r = true then do let ok ← isTrue c env (eval c env); pure (ForInStep.yield ok) else pure (ForInStep.yield r)) (fun ok s₃ =>
            if ok = true then wpAny (model prog w) A (eval i2 env) (fun x s₄ => wpAny (model prog w) A (pyIter x) (fun it1 s₅ =>
              codeAny (model prog w) A (.compStart (lc4 elt t0 i0 t1 i1 t2 i2 t3 i3 f0 f1 f2 f3 scope pos) 2 it1 acc env) (fun r s' => match r with
                | .ok _ => ∃ m, m < n ∧ I m s'
                | .error _ => False) s₅) (notedBy (model prog w) A env fun e s' => R (.error e) s') s₄) (notedBy (model prog w) A env fun e s' => R (.error e) s') s₃
            else ∃ m, m < n ∧ I m s₃) (notedBy (model prog w) A env fun e s' => R (.error e) s') s₂) (notedBy (model prog w) A env fun e s' => R (.error e) s') s₁') (notedBy (model prog w) A env fun e s' => R (.error e) s') s₁) (notedBy (model prog w) A env fun e s' => R (.error e) s') s)
    (n : Nat) (h : I n s) :
    codeAny (model prog w) A (.compLoop (lc4 elt t0 i0 t1 i1 t2 i2 t3 i3 f0 f1 f2 f3 scope pos) 1 it acc env) R s := by
  refine codeAny_loop rfl I (fun n s hI => ?_) n h
  show wpAny _ A ((compTurn (lc4 elt t0 i0 t1 i1 t2 i2 t3 i3 f0 f1 f2 f3 scope pos) 1 it acc env).onRaise (fun x => do noteFrame x env; theTreesLotGoes x)) _ _ s
  refine wpAny_noted ?_
  rw [turn4_1]
  refine wpAny_bind (wpAny_standAt (wpAny_bind (wpAny_mono (turn n s hI) (fun r s₁ h₁ => ?_) fun _ _ h' => h')))
  cases r with
  | none => exact wpAny_pure h₁
  | some v =>
    refine wpAny_bind (wpAny_mono h₁ (fun _ s₁' h₁' => ?_) fun _ _ h' => h')
    refine wpAny_bind (wpAny_mono h₁' (fun _ s₂ h₂ => wpAny_bind (wpAny_mono h₂ (fun ok s₃ h₃ => ?_) fun _ _ h' => h')) fun _ _ h' => h')
    cases ok with
    | false => exact wpAny_pure ⟨rfl, h₃⟩
    | true =>
      refine wpAny_bind (wpAny_mono h₃ (fun x s₄ h₄ => ?_) fun _ _ h' => h')
      refine wpAny_bind (wpAny_standAt (wpAny_bind (wpAny_of_eq (hs x) (wpAny_bind (wpAny_holding (wpAny_mono h₄ (fun it1 s₅ h₅ => ?_) fun _ _ h' => h'))))))
      refine wpAny_bind (wpAny_runOwn ?_)
      rw [Around.mark_none]
      refine codeAny_mono h₅ fun r s' hr => ?_
      cases r with
      | ok f =>
        first
          | exact wpAny_pure ⟨rfl, hr⟩
          | exact wpAny_bind (wpAny_pure (wpAny_pure ⟨rfl, hr⟩))
      | error e => exact hr.elim

theorem loop4_2 (hs : ∀ x, foldedSetIterable i3 env x = pure x) (I : Nat → Shared → Prop)
    (turn : ∀ n s, I n s → wpAny (model prog w) A (pyNext it) (fun r s₁ => match r with
      | none => R (.ok .next) s₁
      | some v => wpAny (model prog w) A (letOwnedTupleGo t2 it v) (fun _ s₁' => wpAny (model prog w) A (assign t2 env v) (fun _ s₂ =>
          wpAny (model prog w) A (forIn f2 true fun c r => if r = true then do let ok ← isTrue c env (eval c env); pure (ForInStep.yield ok) else pure (ForInStep.yield r)) (fun ok s₃ =>
            if ok = true then wpAny (model prog w) A (eval i3 env) (fun x s₄ => wpAny (model prog w) A (pyIter x) (fun it1 s₅ =>
              codeAny (model prog w) A (.compStart (lc4 elt t0 i0 t1 i1 t2 i2 t3 i3 f0 f1 f2 f3 scope pos) 3 it1 acc env) (fun r s' => match r with
                | .ok _ => ∃ m, m < n ∧ I m s'
                | .error _ => False) s₅) (notedBy (model prog w) A env fun e s' => R (.error e) s') s₄) (notedBy (model prog w) A env fun e s' => R (.error e) s') s₃
            else ∃ m, m < n ∧ I m s₃) (notedBy (model prog w) A env fun e s' => R (.error e) s') s₂) (notedBy (model prog w) A env fun e s' => R (.error e) s') s₁') (notedBy (model prog w) A env fun e s' => R (.error e) s') s₁) (notedBy (model prog w) A env fun e s' => R (.error e) s') s)
    (n : Nat) (h : I n s) :
    codeAny (model prog w) A (.compLoop (lc4 elt t0 i0 t1 i1 t2 i2 t3 i3 f0 f1 f2 f3 scope pos) 2 it acc env) R s := by
  refine codeAny_loop rfl I (fun n s hI => ?_) n h
  show wpAny _ A ((compTurn (lc4 elt t0 i0 t1 i1 t2 i2 t3 i3 f0 f1 f2 f3 scope pos) 2 it acc env).onRaise (fun x => do noteFrame x env; theTreesLotGoes x)) _ _ s
  refine wpAny_noted ?_
  rw [turn4_2]
  refine wpAny_bind (wpAny_standAt (wpAny_bind (wpAny_mono (turn n s hI) (fun r s₁ h₁ => ?_) fun _ _ h' => h')))
  cases r with
  | none => exact wpAny_pure h₁
  | some v =>
    refine wpAny_bind (wpAny_mono h₁ (fun _ s₁' h₁' => ?_) fun _ _ h' => h')
    refine wpAny_bind (wpAny_mono h₁' (fun _ s₂ h₂ => wpAny_bind (wpAny_mono h₂ (fun ok s₃ h₃ => ?_) fun _ _ h' => h')) fun _ _ h' => h')
    cases ok with
    | false => exact wpAny_pure ⟨rfl, h₃⟩
    | true =>
      refine wpAny_bind (wpAny_mono h₃ (fun x s₄ h₄ => ?_) fun _ _ h' => h')
      refine wpAny_bind (wpAny_standAt (wpAny_bind (wpAny_of_eq (hs x) (wpAny_bind (wpAny_holding (wpAny_mono h₄ (fun it1 s₅ h₅ => ?_) fun _ _ h' => h'))))))
      refine wpAny_bind (wpAny_runOwn ?_)
      rw [Around.mark_none]
      refine codeAny_mono h₅ fun r s' hr => ?_
      cases r with
      | ok f =>
        first
          | exact wpAny_pure ⟨rfl, hr⟩
          | exact wpAny_bind (wpAny_pure (wpAny_pure ⟨rfl, hr⟩))
      | error e => exact hr.elim

theorem loop4_3 (I : Nat → Shared → Prop)
    (turn : ∀ n s, I n s → wpAny (model prog w) A (pyNext it) (fun r s₁ => match r with
      | none => R (.ok .next) s₁
      | some v => wpAny (model prog w) A (letOwnedTupleGo t3 it v) (fun _ s₁' => wpAny (model prog w) A (assign t3 env v) (fun _ s₂ =>
          wpAny (model prog w) A (forIn f3 true fun c r => if r = true then do let ok ← isTrue c env (eval c env); pure (ForInStep.yield ok) else pure (ForInStep.yield r)) (fun ok s₃ =>
            if ok = true then wpAny (model prog w) A (eval elt env) (fun x s₄ =>
              wpAny (model prog w) A (call (.builtin "list.append") [acc, x]) (fun _ s₅ => ∃ m, m < n ∧ I m s₅) (notedBy (model prog w) A env fun e s' => R (.error e) s') s₄) (notedBy (model prog w) A env fun e s' => R (.error e) s') s₃
            else ∃ m, m < n ∧ I m s₃) (notedBy (model prog w) A env fun e s' => R (.error e) s') s₂) (notedBy (model prog w) A env fun e s' => R (.error e) s') s₁') (notedBy (model prog w) A env fun e s' => R (.error e) s') s₁) (notedBy (model prog w) A env fun e s' => R (.error e) s') s)
    (n : Nat) (h : I n s) :
    codeAny (model prog w) A (.compLoop (lc4 elt t0 i0 t1 i1 t2 i2 t3 i3 f0 f1 f2 f3 scope pos) 3 it acc env) R s := by
  refine codeAny_loop rfl I (fun n s hI => ?_) n h
  show wpAny _ A ((compTurn (lc4 elt t0 i0 t1 i1 t2 i2 t3 i3 f0 f1 f2 f3 scope pos) 3 it acc env).onRaise (fun x => do noteFrame x env; theTreesLotGoes x)) _ _ s
  refine wpAny_noted ?_
  rw [turn4_3]
  refine wpAny_bind (wpAny_standAt (wpAny_bind (wpAny_mono (turn n s hI) (fun r s₁ h₁ => ?_) fun _ _ h' => h')))
  cases r with
  | none => exact wpAny_pure h₁
  | some v =>
    refine wpAny_bind (wpAny_mono h₁ (fun _ s₁' h₁' => ?_) fun _ _ h' => h')
    refine wpAny_bind (wpAny_mono h₁' (fun _ s₂ h₂ => wpAny_bind (wpAny_mono h₂ (fun ok s₃ h₃ => ?_) fun _ _ h' => h')) fun _ _ h' => h')
    cases ok with
    | false => exact wpAny_pure ⟨rfl, h₃⟩
    | true =>
      exact wpAny_bind (wpAny_bind (wpAny_mono h₃ (fun x s₄ h₄ => wpAny_bind (wpAny_mono h₄ (fun _ s₅ h₅ => wpAny_pure (wpAny_pure ⟨rfl, h₅⟩)) fun _ _ h' => h')) fun _ _ h' => h'))

theorem start4_1 (h0 : codeAny (model prog w) A (.compLoop (lc4 elt t0 i0 t1 i1 t2 i2 t3 i3 f0 f1 f2 f3 scope pos) 1 it acc env) R s)
    (h : wpAny (model prog w) A (pyIter it) (fun it' s' => codeAny (model prog w) A (.compLoop (lc4 elt t0 i0 t1 i1 t2 i2 t3 i3 f0 f1 f2 f3 scope pos) 1 it' acc env) R s') (notedBy (model prog w) A env fun x s' => R (.error x) s') s) :
    codeAny (model prog w) A (.compStart (lc4 elt t0 i0 t1 i1 t2 i2 t3 i3 f0 f1 f2 f3 scope pos) 1 it acc env) R s := by
  refine codeAny_of_tree ?_
  show wpAny _ _ ((compStart (lc4 elt t0 i0 t1 i1 t2 i2 t3 i3 f0 f1 f2 f3 scope pos) 1 it acc env).onRaise (fun x => do noteFrame x env; standAt theWindowsPlace)) _ _ s
  refine wpAny_notedAt ?_
  unfold compStart
  show wpAny _ _ (ask >>= _) _ _ s
  refine wpAny_bind (wpAny_askSetting (wpAny_ite ?_))
  split
  · first
      | exact wpAny_bind (wpAny_pure (wpAny_pure (And.intro rfl h0)))
      | exact wpAny_pure (And.intro rfl h0)
  · first
      | exact wpAny_bind (wpAny_rule (wpAny_bind (wpAny_standAt (wpAny_bind (wpAny_mono h (fun it' s' h' => wpAny_pure (And.intro rfl h')) fun _ _ x => x)))))
      | (refine wpAny_bind (wpAny_rule ?_); show wpAny _ _ (standAt i1.pos >>= _) _ _ s; exact wpAny_bind (wpAny_standAt (wpAny_bind (wpAny_mono h (fun it' s' h' => wpAny_pure (And.intro rfl h')) fun _ _ x => x))))

theorem start4_2 (h0 : codeAny (model prog w) A (.compLoop (lc4 elt t0 i0 t1 i1 t2 i2 t3 i3 f0 f1 f2 f3 scope pos) 2 it acc env) R s)
    (h : wpAny (model prog w) A (pyIter it) (fun it' s' => codeAny (model prog w) A (.compLoop (lc4 elt t0 i0 t1 i1 t2 i2 t3 i3 f0 f1 f2 f3 scope pos) 2 it' acc env) R s') (notedBy (model prog w) A env fun x s' => R (.error x) s') s) :
    codeAny (model prog w) A (.compStart (lc4 elt t0 i0 t1 i1 t2 i2 t3 i3 f0 f1 f2 f3 scope pos) 2 it acc env) R s := by
  refine codeAny_of_tree ?_
  show wpAny _ _ ((compStart (lc4 elt t0 i0 t1 i1 t2 i2 t3 i3 f0 f1 f2 f3 scope pos) 2 it acc env).onRaise (fun x => do noteFrame x env; standAt theWindowsPlace)) _ _ s
  refine wpAny_notedAt ?_
  unfold compStart
  show wpAny _ _ (ask >>= _) _ _ s
  refine wpAny_bind (wpAny_askSetting (wpAny_ite ?_))
  split
  · first
      | exact wpAny_bind (wpAny_pure (wpAny_pure (And.intro rfl h0)))
      | exact wpAny_pure (And.intro rfl h0)
  · first
      | exact wpAny_bind (wpAny_rule (wpAny_bind (wpAny_standAt (wpAny_bind (wpAny_mono h (fun it' s' h' => wpAny_pure (And.intro rfl h')) fun _ _ x => x)))))
      | (refine wpAny_bind (wpAny_rule ?_); show wpAny _ _ (standAt i2.pos >>= _) _ _ s; exact wpAny_bind (wpAny_standAt (wpAny_bind (wpAny_mono h (fun it' s' h' => wpAny_pure (And.intro rfl h')) fun _ _ x => x))))

theorem start4_3 (h0 : codeAny (model prog w) A (.compLoop (lc4 elt t0 i0 t1 i1 t2 i2 t3 i3 f0 f1 f2 f3 scope pos) 3 it acc env) R s)
    (h : wpAny (model prog w) A (pyIter it) (fun it' s' => codeAny (model prog w) A (.compLoop (lc4 elt t0 i0 t1 i1 t2 i2 t3 i3 f0 f1 f2 f3 scope pos) 3 it' acc env) R s') (notedBy (model prog w) A env fun x s' => R (.error x) s') s) :
    codeAny (model prog w) A (.compStart (lc4 elt t0 i0 t1 i1 t2 i2 t3 i3 f0 f1 f2 f3 scope pos) 3 it acc env) R s := by
  refine codeAny_of_tree ?_
  show wpAny _ _ ((compStart (lc4 elt t0 i0 t1 i1 t2 i2 t3 i3 f0 f1 f2 f3 scope pos) 3 it acc env).onRaise (fun x => do noteFrame x env; standAt theWindowsPlace)) _ _ s
  refine wpAny_notedAt ?_
  unfold compStart
  show wpAny _ _ (ask >>= _) _ _ s
  refine wpAny_bind (wpAny_askSetting (wpAny_ite ?_))
  split
  · first
      | exact wpAny_bind (wpAny_pure (wpAny_pure (And.intro rfl h0)))
      | exact wpAny_pure (And.intro rfl h0)
  · first
      | exact wpAny_bind (wpAny_rule (wpAny_bind (wpAny_standAt (wpAny_bind (wpAny_mono h (fun it' s' h' => wpAny_pure (And.intro rfl h')) fun _ _ x => x)))))
      | (refine wpAny_bind (wpAny_rule ?_); show wpAny _ _ (standAt i3.pos >>= _) _ _ s; exact wpAny_bind (wpAny_standAt (wpAny_bind (wpAny_mono h (fun it' s' h' => wpAny_pure (And.intro rfl h')) fun _ _ x => x))))

end
end KT

namespace KT
open PySem PySem.Spec PyProof.Rows L2
abbrev TCl := Addr → L2.St → Hp → (Hp → Prop) → Prop
/-- an inner clause runs: t its reading, vs the slots that it may leave otherwise -/
def InnerOk (Y : Cx) (LC ij : Expr) (j : Nat) (vs : List Nat) (t : TCl) : Prop :=
  ∀ (D : Addr) (pins : List (Addr × Obj)) (s : Shared) (σ : L2.St) (H : Hp) (Nx : Hp → Prop), Inv Y pins σ H s → t D σ H Nx →
    wpAny (model Y.prog Y.w) Y.A (eval ij Y.env) (fun xv s1 => wpAny (model Y.prog Y.w) Y.A (pyIter xv) (fun itv s2 => codeAny (model Y.prog Y.w) Y.A (.compStart LC j itv (.ref D) Y.env)
      (fun r s' => match r with
        | .ok _ => ∃ σ' H', Inv Y pins σ' H' s' ∧ σ.length = σ'.length ∧ (∀ (i : Nat) (v : V), (wipe σ vs)[i]? = some (some v) → σ'[i]? = some (some v)) ∧ Nx H'
        | .error _ => False) s2) (fun _ _ => False) s1) (fun _ _ => False) s
/-- a clause's own loop, what a turn does told by BODY -/
def tClause (wi : TI) (g : TG) (tt : TT) (vs : List Nat) (BODY : Addr → L2.St → Hp → (Hp → Prop) → Prop) : TCl := fun D σ H Nx => wi σ H fun J H4 => ∃ W1 : Nat → Nat → Hp → Prop, (∃ m, W1 0 m H4) ∧ ∀ j k H, W1 j k H →
  (J.stop j H ∧ Nx H) ∨ (J.go j H ∧ ∃ Nx1 : Hp → Prop, (∀ H', Nx1 H' → ∃ k', k' < k ∧ W1 (j + 1) k' H') ∧ ∀ x H', J.yld j H x H' → g x (wipe σ vs) H' fun σ3 H5 => wipe σ3 vs = wipe σ vs ∧ tt σ3 H5 fun b H6 =>
    if b = true then BODY D σ3 H6 Nx1 else Nx1 H6)
def bElt (te : TE) : TCl := fun D σ H Nx => te σ H fun y H7 => ∃ acc, H7 D = some (.lst acc) ∧ acc.length < sizeLine ∧ Nx (upd H7 D (.lst (acc ++ [y])))
section
variable {Y : Cx} {elt t0 i0 t1 i1 t2 i2 t3 i3 : Expr} {f0 f1 f2 f3 : List Expr} {scope : Scope} {pos : Pos} {vs vsin : List Nat} {wi : TI} {g : TG} {tt : TT} {te : TE} {tin : TCl}

theorem inner3 (hc : Y.calm = true) (hxe : Y.xe = fun _ _ => False) (pi1 : PI Y t3 i3 wi) (pg : PG Y t3 g) (pt : PTs Y f3 tt) (pe : PE Y elt te) : InnerOk Y (lc4 elt t0 i0 t1 i1 t2 i2 t3 i3 f0 f1 f2 f3 scope pos) i3 3 vs (tClause wi g tt vs (bElt te)) := by
  intro D pins s9 σ8 H9 Nx I9 q9
  have z := pi1.run pins s9 σ8 H9 _ I9 q9
  rw [hxe] at z
  refine thnF z fun xv s10 hx => thnF hx fun itv s11 h11 => ?_
  obtain ⟨it1, fp1, tn1, J1, H11, e1, I11, T1, st11, f11, W1, ⟨m1, w1⟩, turn1⟩ := h11
  subst e1
  have stat1 : ∀ {H' : Hp}, (∀ b ∈ fp1, H' b = none) → ∀ b ∈ fp1, FpOk Y pins H' b := fun hn b hb => ⟨hn b hb, (f11 b hb).2⟩
  have loop1 : codeAny (model Y.prog Y.w) Y.A (.compLoop (lc4 elt t0 i0 t1 i1 t2 i2 t3 i3 f0 f1 f2 f3 scope pos) 3 (.ref it1) (.ref D) Y.env) (fun r s' => match r with
        | .ok _ => ∃ σ' H', Inv Y pins σ' H' s' ∧ σ8.length = σ'.length ∧ (∀ (i : Nat) (v : V), (wipe σ8 vs)[i]? = some (some v) → σ'[i]? = some (some v)) ∧ Nx H'
        | .error _ => False) s11 := by
    refine loop4_3 (fun k s' => ∃ j H', Inv Y pins (wipe σ8 vs) H' s' ∧ tn1 j s'.heap ∧ (∀ b ∈ fp1, H' b = none) ∧ W1 j k H') ?_ m1 ⟨0, H11, I11.weak (wipe_length _ _) (fun j v e => (wipe_some e).1), st11, fun b hb => (f11 b hb).1, w1⟩
    rintro k s12 ⟨j, H12, I12, st12, n12, w12⟩
    rcases turn1 j k H12 w12 with ⟨stop1, nx1⟩ | ⟨go1, Nx1, hNx1, step1⟩
    · refine thnF (T1.done Y rfl rfl rfl hc j _ s12 (wipe σ8 vs) H12 (fun _ _ => False) I12 (stat1 n12) st12 stop1) fun r s13 ⟨hr, I13⟩ => ?_
      subst hr
      exact ⟨wipe σ8 vs, H12, I13, (wipe_length σ8 vs).symm, fun i v e => e, nx1⟩
    · refine thnF (T1.item Y rfl rfl rfl hc j _ s12 (wipe σ8 vs) H12 (fun _ _ => False) I12 (stat1 n12) st12 go1) fun r s13 ⟨u1, hr, h13⟩ => ?_
      subst hr
      refine thnF h13 fun _ s14 ⟨x1, H14, I14, r14, y14, st14, n14⟩ => ?_
      have I14' := I14.pinned (stat1 n14) (T1.obj _ _ st14)
      have pgr := pg.run _ s14 (wipe σ8 vs) H14 x1 u1 _ I14' r14 (step1 x1 H14 y14)
      rw [hxe] at pgr
      refine thnF pgr fun _ s15 ⟨σ15, H15, I15, hw15, q15⟩ => ?_
      have ptr := pt.run _ s15 σ15 H15 _ I15 q15
      rw [hxe] at ptr
      refine thnF ptr fun b1 s16 ⟨H16, I16, q16⟩ => ?_
      have fin1 : ∀ {σ' : L2.St} {s' : Shared} {H' : Hp}, Inv Y (pins ++ pinsAt fp1 s14.heap) σ' H' s' → (wipe σ8 vs).length = σ'.length → (∀ (i : Nat) (v : V), (wipe σ8 vs)[i]? = some (some v) → σ'[i]? = some (some v)) → Nx1 H' →
          ∃ m, m < k ∧ ∃ j H', Inv Y pins (wipe σ8 vs) H' s' ∧ tn1 j s'.heap ∧ (∀ b ∈ fp1, H' b = none) ∧ W1 j m H' := fun {σ' s' H'} I' hl hk nx => by
        obtain ⟨m', hm, w'⟩ := hNx1 H' nx
        have pin' : ∀ b ∈ fp1, ∀ o, s14.heap.get? b = some o → s'.heap.get? b = some o ∧ H' b = none := fun b hb o e =>
          let z := I'.pin (b, o) (List.mem_append_right _ (List.mem_append_right _ (mem_pinsAt hb e)))
          ⟨z.1, z.2.1⟩
        refine ⟨m', hm, j + 1, H', I'.unpinned.weak hl hk, T1.keep _ _ _ st14 fun b hb o e => (pin' b hb o e).1, fun b hb => ?_, w'⟩
        obtain ⟨o, e, _⟩ := T1.obj _ _ st14 b hb
        exact (pin' b hb o e).2
      cases b1 with
      | false =>
        simp only [Bool.false_eq_true, if_false] at q16 ⊢
        exact fin1 I16 (by rw [← hw15, wipe_length]) (fun i v e => by rw [← hw15] at e; exact (wipe_some e).1) q16
      | true =>
        simp only [if_true] at q16 ⊢
        have per := pe.run _ s16 σ15 H16 _ I16 q16
        rw [hxe] at per
        refine thnF per fun z s17 ⟨yv, H17, I17, r17, acc, hD17, hz17, nx⟩ => ?_
        exact app_ok (X := Y) I17 hD17 hz17 r17 fun s18 I18 => fin1 I18 (by rw [← hw15, wipe_length]) (fun i v e => by rw [← hw15] at e; exact (wipe_some e).1) nx
  exact start4_3 loop1 (T1.self Y.A 0 _ _ _ st11 loop1)

theorem inner2 (hc : Y.calm = true) (hxe : Y.xe = fun _ _ => False) (pi1 : PI Y t2 i2 wi) (pg : PG Y t2 g) (pt : PTs Y f2 tt) (hv : ∀ i ∈ vsin, i ∈ vs) (hs : ∀ x, foldedSetIterable i3 Y.env x = pure x) (hin : InnerOk Y (lc4 elt t0 i0 t1 i1 t2 i2 t3 i3 f0 f1 f2 f3 scope pos) i3 3 vsin tin) : InnerOk Y (lc4 elt t0 i0 t1 i1 t2 i2 t3 i3 f0 f1 f2 f3 scope pos) i2 2 vs (tClause wi g tt vs tin) := by
  intro D pins s9 σ8 H9 Nx I9 q9
  have z := pi1.run pins s9 σ8 H9 _ I9 q9
  rw [hxe] at z
  refine thnF z fun xv s10 hx => thnF hx fun itv s11 h11 => ?_
  obtain ⟨it1, fp1, tn1, J1, H11, e1, I11, T1, st11, f11, W1, ⟨m1, w1⟩, turn1⟩ := h11
  subst e1
  have stat1 : ∀ {H' : Hp}, (∀ b ∈ fp1, H' b = none) → ∀ b ∈ fp1, FpOk Y pins H' b := fun hn b hb => ⟨hn b hb, (f11 b hb).2⟩
  have loop1 : codeAny (model Y.prog Y.w) Y.A (.compLoop (lc4 elt t0 i0 t1 i1 t2 i2 t3 i3 f0 f1 f2 f3 scope pos) 2 (.ref it1) (.ref D) Y.env) (fun r s' => match r with
        | .ok _ => ∃ σ' H', Inv Y pins σ' H' s' ∧ σ8.length = σ'.length ∧ (∀ (i : Nat) (v : V), (wipe σ8 vs)[i]? = some (some v) → σ'[i]? = some (some v)) ∧ Nx H'
        | .error _ => False) s11 := by
    refine loop4_2 hs (fun k s' => ∃ j H', Inv Y pins (wipe σ8 vs) H' s' ∧ tn1 j s'.heap ∧ (∀ b ∈ fp1, H' b = none) ∧ W1 j k H') ?_ m1 ⟨0, H11, I11.weak (wipe_length _ _) (fun j v e => (wipe_some e).1), st11, fun b hb => (f11 b hb).1, w1⟩
    rintro k s12 ⟨j, H12, I12, st12, n12, w12⟩
    rcases turn1 j k H12 w12 with ⟨stop1, nx1⟩ | ⟨go1, Nx1, hNx1, step1⟩
    · refine thnF (T1.done Y rfl rfl rfl hc j _ s12 (wipe σ8 vs) H12 (fun _ _ => False) I12 (stat1 n12) st12 stop1) fun r s13 ⟨hr, I13⟩ => ?_
      subst hr
      exact ⟨wipe σ8 vs, H12, I13, (wipe_length σ8 vs).symm, fun i v e => e, nx1⟩
    · refine thnF (T1.item Y rfl rfl rfl hc j _ s12 (wipe σ8 vs) H12 (fun _ _ => False) I12 (stat1 n12) st12 go1) fun r s13 ⟨u1, hr, h13⟩ => ?_
      subst hr
      refine thnF h13 fun _ s14 ⟨x1, H14, I14, r14, y14, st14, n14⟩ => ?_
      have I14' := I14.pinned (stat1 n14) (T1.obj _ _ st14)
      have pgr := pg.run _ s14 (wipe σ8 vs) H14 x1 u1 _ I14' r14 (step1 x1 H14 y14)
      rw [hxe] at pgr
      refine thnF pgr fun _ s15 ⟨σ15, H15, I15, hw15, q15⟩ => ?_
      have ptr := pt.run _ s15 σ15 H15 _ I15 q15
      rw [hxe] at ptr
      refine thnF ptr fun b1 s16 ⟨H16, I16, q16⟩ => ?_
      have fin1 : ∀ {σ' : L2.St} {s' : Shared} {H' : Hp}, Inv Y (pins ++ pinsAt fp1 s14.heap) σ' H' s' → (wipe σ8 vs).length = σ'.length → (∀ (i : Nat) (v : V), (wipe σ8 vs)[i]? = some (some v) → σ'[i]? = some (some v)) → Nx1 H' →
          ∃ m, m < k ∧ ∃ j H', Inv Y pins (wipe σ8 vs) H' s' ∧ tn1 j s'.heap ∧ (∀ b ∈ fp1, H' b = none) ∧ W1 j m H' := fun {σ' s' H'} I' hl hk nx => by
        obtain ⟨m', hm, w'⟩ := hNx1 H' nx
        have pin' : ∀ b ∈ fp1, ∀ o, s14.heap.get? b = some o → s'.heap.get? b = some o ∧ H' b = none := fun b hb o e =>
          let z := I'.pin (b, o) (List.mem_append_right _ (List.mem_append_right _ (mem_pinsAt hb e)))
          ⟨z.1, z.2.1⟩
        refine ⟨m', hm, j + 1, H', I'.unpinned.weak hl hk, T1.keep _ _ _ st14 fun b hb o e => (pin' b hb o e).1, fun b hb => ?_, w'⟩
        obtain ⟨o, e, _⟩ := T1.obj _ _ st14 b hb
        exact (pin' b hb o e).2
      cases b1 with
      | false =>
        simp only [Bool.false_eq_true, if_false] at q16 ⊢
        exact fin1 I16 (by rw [← hw15, wipe_length]) (fun i v e => by rw [← hw15] at e; exact (wipe_some e).1) q16
      | true =>
        simp only [if_true] at q16 ⊢
        refine thnF (hin D _ s16 σ15 H16 Nx1 I16 q16) fun xv s17 hx => thnF hx fun itv s18 h18 => codeAny_mono h18 fun r s19 hr => ?_
        match r, hr with
        | .error _, hr => exact hr.elim
        | .ok _, ⟨σ', H', I19, hl, hk, nx⟩ =>
          refine fin1 I19 (by rw [← hl, ← wipe_length σ15 vs, hw15]) (fun i v e => hk i v ?_) nx
          rw [← hw15] at e
          obtain ⟨e1, e2⟩ := wipe_some e
          rw [wipe_out fun z => e2 (hv i z)]
          exact e1
  exact start4_2 loop1 (T1.self Y.A 0 _ _ _ st11 loop1)

theorem inner1 (hc : Y.calm = true) (hxe : Y.xe = fun _ _ => False) (pi1 : PI Y t1 i1 wi) (pg : PG Y t1 g) (pt : PTs Y f1 tt) (hv : ∀ i ∈ vsin, i ∈ vs) (hs : ∀ x, foldedSetIterable i2 Y.env x = pure x) (hin : InnerOk Y (lc4 elt t0 i0 t1 i1 t2 i2 t3 i3 f0 f1 f2 f3 scope pos) i2 2 vsin tin) : InnerOk Y (lc4 elt t0 i0 t1 i1 t2 i2 t3 i3 f0 f1 f2 f3 scope pos) i1 1 vs (tClause wi g tt vs tin) := by
  intro D pins s9 σ8 H9 Nx I9 q9
  have z := pi1.run pins s9 σ8 H9 _ I9 q9
  rw [hxe] at z
  refine thnF z fun xv s10 hx => thnF hx fun itv s11 h11 => ?_
  obtain ⟨it1, fp1, tn1, J1, H11, e1, I11, T1, st11, f11, W1, ⟨m1, w1⟩, turn1⟩ := h11
  subst e1
  have stat1 : ∀ {H' : Hp}, (∀ b ∈ fp1, H' b = none) → ∀ b ∈ fp1, FpOk Y pins H' b := fun hn b hb => ⟨hn b hb, (f11 b hb).2⟩
  have loop1 : codeAny (model Y.prog Y.w) Y.A (.compLoop (lc4 elt t0 i0 t1 i1 t2 i2 t3 i3 f0 f1 f2 f3 scope pos) 1 (.ref it1) (.ref D) Y.env) (fun r s' => match r with
        | .ok _ => ∃ σ' H', Inv Y pins σ' H' s' ∧ σ8.length = σ'.length ∧ (∀ (i : Nat) (v : V), (wipe σ8 vs)[i]? = some (some v) → σ'[i]? = some (some v)) ∧ Nx H'
        | .error _ => False) s11 := by
    refine loop4_1 hs (fun k s' => ∃ j H', Inv Y pins (wipe σ8 vs) H' s' ∧ tn1 j s'.heap ∧ (∀ b ∈ fp1, H' b = none) ∧ W1 j k H') ?_ m1 ⟨0, H11, I11.weak (wipe_length _ _) (fun j v e => (wipe_some e).1), st11, fun b hb => (f11 b hb).1, w1⟩
    rintro k s12 ⟨j, H12, I12, st12, n12, w12⟩
    rcases turn1 j k H12 w12 with ⟨stop1, nx1⟩ | ⟨go1, Nx1, hNx1, step1⟩
    · refine thnF (T1.done Y rfl rfl rfl hc j _ s12 (wipe σ8 vs) H12 (fun _ _ => False) I12 (stat1 n12) st12 stop1) fun r s13 ⟨hr, I13⟩ => ?_
      subst hr
      exact ⟨wipe σ8 vs, H12, I13, (wipe_length σ8 vs).symm, fun i v e => e, nx1⟩
    · refine thnF (T1.item Y rfl rfl rfl hc j _ s12 (wipe σ8 vs) H12 (fun _ _ => False) I12 (stat1 n12) st12 go1) fun r s13 ⟨u1, hr, h13⟩ => ?_
      subst hr
      refine thnF h13 fun _ s14 ⟨x1, H14, I14, r14, y14, st14, n14⟩ => ?_
      have I14' := I14.pinned (stat1 n14) (T1.obj _ _ st14)
      have pgr := pg.run _ s14 (wipe σ8 vs) H14 x1 u1 _ I14' r14 (step1 x1 H14 y14)
      rw [hxe] at pgr
      refine thnF pgr fun _ s15 ⟨σ15, H15, I15, hw15, q15⟩ => ?_
      have ptr := pt.run _ s15 σ15 H15 _ I15 q15
      rw [hxe] at ptr
      refine thnF ptr fun b1 s16 ⟨H16, I16, q16⟩ => ?_
      have fin1 : ∀ {σ' : L2.St} {s' : Shared} {H' : Hp}, Inv Y (pins ++ pinsAt fp1 s14.heap) σ' H' s' → (wipe σ8 vs).length = σ'.length → (∀ (i : Nat) (v : V), (wipe σ8 vs)[i]? = some (some v) → σ'[i]? = some (some v)) → Nx1 H' →
          ∃ m, m < k ∧ ∃ j H', Inv Y pins (wipe σ8 vs) H' s' ∧ tn1 j s'.heap ∧ (∀ b ∈ fp1, H' b = none) ∧ W1 j m H' := fun {σ' s' H'} I' hl hk nx => by
        obtain ⟨m', hm, w'⟩ := hNx1 H' nx
        have pin' : ∀ b ∈ fp1, ∀ o, s14.heap.get? b = some o → s'.heap.get? b = some o ∧ H' b = none := fun b hb o e =>
          let z := I'.pin (b, o) (List.mem_append_right _ (List.mem_append_right _ (mem_pinsAt hb e)))
          ⟨z.1, z.2.1⟩
        refine ⟨m', hm, j + 1, H', I'.unpinned.weak hl hk, T1.keep _ _ _ st14 fun b hb o e => (pin' b hb o e).1, fun b hb => ?_, w'⟩
        obtain ⟨o, e, _⟩ := T1.obj _ _ st14 b hb
        exact (pin' b hb o e).2
      cases b1 with
      | false =>
        simp only [Bool.false_eq_true, if_false] at q16 ⊢
        exact fin1 I16 (by rw [← hw15, wipe_length]) (fun i v e => by rw [← hw15] at e; exact (wipe_some e).1) q16
      | true =>
        simp only [if_true] at q16 ⊢
        refine thnF (hin D _ s16 σ15 H16 Nx1 I16 q16) fun xv s17 hx => thnF hx fun itv s18 h18 => codeAny_mono h18 fun r s19 hr => ?_
        match r, hr with
        | .error _, hr => exact hr.elim
        | .ok _, ⟨σ', H', I19, hl, hk, nx⟩ =>
          refine fin1 I19 (by rw [← hl, ← wipe_length σ15 vs, hw15]) (fun i v e => hk i v ?_) nx
          rw [← hw15] at e
          obtain ⟨e1, e2⟩ := wipe_some e
          rw [wipe_out fun z => e2 (hv i z)]
          exact e1
  exact start4_1 loop1 (T1.self Y.A 0 _ _ _ st11 loop1)

end
end KT

namespace KT
open PySem PySem.Spec PyProof.Rows L2
section
variable {X : Cx} {elt t0 i0 t1 i1 t2 i2 t3 i3 : Expr} {f0 f1 f2 f3 : List Expr} {scope : Scope} {pos : Pos}
/-- [elt for t0 in i0 .. for t1 in i1 .. for t2 .. for t3 ..] -/
def tLc4 (wi : TI) (g : TG) (tt : TT) (tin : TCl) (vs : List Nat) : TE := fun σ H Q => wi σ H fun J H1 => ∀ D, H1 D = none → ∃ W : Nat → Nat → Hp → Prop, (∃ m, W 0 m (upd H1 D (.lst []))) ∧ ∀ i m H, W i m H →
  (J.stop i H ∧ Q (.ref D) H) ∨ (J.go i H ∧ ∃ Nx : Hp → Prop, (∀ H', Nx H' → ∃ m', m' < m ∧ W (i + 1) m' H') ∧ ∀ x H', J.yld i H x H' → g x (wipe σ vs) H' fun σ2 H2 => wipe σ2 vs = wipe σ vs ∧ tt σ2 H2 fun b H3 =>
    if b = true then tin D σ2 H3 Nx else Nx H3)
theorem lc4_core {pins : List (Addr × Obj)} {s : Shared} {σ : L2.St} {H : Hp} {Q : VK} {own : List (Str × Nat)} {vs1 : List Nat} {pos' : Pos} {wi : TI} {g : TG} {tt : TT} {tin : TCl} {use : Option (Value → Sem Unit)} {Qf : Value → Shared → Prop}
    (hc : X.calm = true) (hN : X.N.Nodup) (I : Inv X pins σ H s) (hi : PI X t0 i0 wi) (ok : BlkOk X.N X.env.scope scope own) (hv : ∀ i ∈ vs1, i ∈ own.map (·.2))
    (hg : ∀ (s : Shared) (H : Hp) (C : Addr) (cl : List (Str × Addr)) (fp : List Addr), PG (X.blk s H scope (compEnvC scope cl C X.env) fp) t0 g) (ht : ∀ (s : Shared) (H : Hp) (C : Addr) (cl : List (Str × Addr)) (fp : List Addr), PTs (X.blk s H scope (compEnvC scope cl C X.env) fp) f0 tt)
    (hin : ∀ (s : Shared) (H : Hp) (C : Addr) (cl : List (Str × Addr)) (fp : List Addr), InnerOk (X.blk s H scope (compEnvC scope cl C X.env) fp) (lc4 elt t0 i0 t1 i1 t2 i2 t3 i3 f0 f1 f2 f3 scope pos) i1 1 vs1 tin)
    (hs : ∀ x, foldedSetIterable i0 X.env x = pure x) (hs1 : ∀ env x, foldedSetIterable i1 env x = pure x)
    (h : tLc4 wi g tt tin (own.map (·.2)) σ H Q)
    (hRR : ∀ D C s' m H', Inv X pins σ H' s' → Q (.ref D) H' → s'.heap.Ns C m → FpOk X pins H' C → compPost (model X.prog X.w) X.A X.xe use Qf (.ref D) C (.ok .next) s') :
    wpAny (model X.prog X.w) X.A (comprehension (lc4 elt t0 i0 t1 i1 t2 i2 t3 i3 f0 f1 f2 f3 scope pos) scope X.env pos' (newList []) false (eval i0 X.env) use) Qf X.xe s := by
  have hfree : ∀ y ∈ scope.names, y.2 = .free → ∃ c, X.env.cells.lookup y.1 = some c := fun y hy e => by
    rcases ok.free y hy e with k | k
    · exact I.ok.has _ (.inl k)
    · exact I.ok.has _ (.inr k)
  refine wpAny_comprehension_free (use := use) rfl hs (closure_ok hfree) ok.kind (fun y hy e => by rw [ok.uniq y hy, e])
    (thn (hi.run pins s σ H _ I h) fun xv s1 hx => thn hx fun itv s2 h2 => ?_)
  obtain ⟨it, fp, tn, J, H2, e, I2, T, st2, f2', q⟩ := h2
  subst e
  refine wpAny_newObj_type (newEnv_comp ?_) (by show 0 ≤ sizeLine; decide)
  generalize hD : s2.heap.objs.size = D
  have hDn : H2 D = none := I2.hok.fresh (Nat.le_of_eq hD)
  obtain ⟨W, ⟨m0, w0⟩, turn⟩ := q D hDn
  generalize hs3 : ({ s2 with heap := s2.heap.push { cls := .type "list", data := .seq ([] : List Value).toArray } } : Shared) = s3
  have I3 : Inv X pins σ (upd H2 D (.lst [])) s3 := by
    rw [← hs3]
    refine I2.laid (t' := s2.toks) (fun b o e => Heap.get?_push_of_some _ e) (Nat.le_of_eq hD) ⟨Nat.zero_le _, [], 0, .nil, ?_⟩
    rw [← hD]
    exact Heap.get?_push_size _ rfl
  have h3 : s3.heap = s2.heap.push { cls := .type "list", data := .seq ([] : List Value).toArray } := by rw [← hs3]
  have sz : ∀ b ∈ fp, b < s2.heap.objs.size := fun b hb => by
    obtain ⟨o, e, _⟩ := T.obj _ _ st2 b hb
    exact Heap.lt_size e
  have f3' : ∀ b ∈ fp, FpOk X pins (upd H2 D (.lst [])) b ∧ b < s3.heap.objs.size := fun b hb => by
    have hlt := sz b hb
    refine ⟨⟨?_, (f2' b hb).2⟩, by rw [h3, Heap.size_push]; exact Nat.lt_succ_of_lt hlt⟩
    rw [upd_ne (by rw [← hD]; exact Nat.ne_of_lt hlt)]
    exact (f2' b hb).1
  have st3 : tn 0 s3.heap := T.keep _ _ _ st2 fun b _ o e => by rw [h3]; exact Heap.get?_push_of_some _ e
  have I4 := block_start I3 ok hN f3'
  have pg := hg s3 (upd H2 D (.lst [])) s3.heap.objs.size (cellsFrom (s3.heap.objs.size + 1) scope.names (cloFrom X.env.cells scope.names [])) fp
  have pt := ht s3 (upd H2 D (.lst [])) s3.heap.objs.size (cellsFrom (s3.heap.objs.size + 1) scope.names (cloFrom X.env.cells scope.names [])) fp
  have pin1 := hin s3 (upd H2 D (.lst [])) s3.heap.objs.size (cellsFrom (s3.heap.objs.size + 1) scope.names (cloFrom X.env.cells scope.names [])) fp
  show codeAny _ _ (.compStart (lc4 elt t0 i0 t1 i1 t2 i2 t3 i3 f0 f1 f2 f3 scope pos) 0 (.ref it) (.ref D) (compEnvC scope (cellsFrom (s3.heap.objs.size + 1) scope.names (cloFrom X.env.cells scope.names [])) s3.heap.objs.size X.env)) (compPost (model X.prog X.w) X.A X.xe use Qf (.ref D) s3.heap.objs.size) { s3 with heap := pushCells (s3.heap.push { cls := .type "dict", data := .dict #[] }) scope.names }
  have nfp : ∀ b ∈ fp, (upd H2 D (.lst [])) b = none := fun b hb => (f3' b hb).1.1
  generalize hce : compEnvC scope (cellsFrom (s3.heap.objs.size + 1) scope.names (cloFrom X.env.cells scope.names [])) s3.heap.objs.size X.env = ce at I4 pg pt pin1 ⊢
  have cL : ce.locals = s3.heap.objs.size := by subst hce; rfl
  generalize hH3 : upd H2 D (.lst []) = H3 at I3 I4 pg pt pin1 w0 nfp f3'
  generalize hs4 : ({ s3 with heap := pushCells (s3.heap.push { cls := .type "dict", data := .dict #[] }) scope.names } : Shared) = s4 at I4 ⊢
  have st4 : tn 0 s4.heap := T.keep _ _ _ st3 fun b _ o e => by rw [← hs4]; exact pushCells_keeps _ _ _ _ (Heap.get?_push_of_some _ e)
  have stat : ∀ {σ' : L2.St} {H' : Hp} {s' : Shared}, Inv (X.blk s3 H3 scope ce fp) [] σ' H' s' → (∀ b ∈ fp, H' b = none) → ∀ b ∈ fp, FpOk (X.blk s3 H3 scope ce fp) [] H' b := fun {σ' H' s'} I' hn b hb =>
    ⟨hn b hb, (I'.ok.exf b hb).1, I'.ok.exfs b hb, .inl hb, fun x c e => (I'.ok.exf b hb).2 x c e, fun p hp => absurd (show p ∈ ([] : List (Addr × Obj)) ++ [] from hp) (by simp)⟩
  have loop : codeAny (model X.prog X.w) X.A (.compLoop (lc4 elt t0 i0 t1 i1 t2 i2 t3 i3 f0 f1 f2 f3 scope pos) 0 (.ref it) (.ref D) ce) (compPost (model X.prog X.w) X.A X.xe use Qf (.ref D) s3.heap.objs.size) s4 := by
    refine loop4_0 (hs1 ce) (fun n s' => ∃ i H', Inv (X.blk s3 H3 scope ce fp) [] (wipe σ (own.map (·.2))) H' s' ∧ tn i s'.heap ∧ (∀ b ∈ fp, H' b = none) ∧ W i n H') ?_ m0 ⟨0, H3, I4, st4, nfp, w0⟩
    rintro n s5 ⟨i, H5, I5, st5, n5, w5⟩
    rcases turn i n H5 w5 with ⟨stop, qq⟩ | ⟨go, Nx, hNx, step⟩
    · have td := T.done (X.blk s3 H3 scope ce fp) rfl rfl rfl hc i [] s5 _ H5 (fun _ _ => False) I5 (stat I5 n5) st5 stop
      refine thnF td fun r s6 ⟨hr, I6⟩ => ?_
      subst hr
      have I7 : Inv X pins σ H5 s6 := I3.call' (ch := fp) I6.os I6.base I6.hok I6.bare fun b hb => ⟨(f3' b hb).1.2.2.2.1, (f3' b hb).1.2.1, (f3' b hb).1.2.2.2.2.1, (f3' b hb).1.2.2.2.2.2⟩
      have nC : H5 s3.heap.objs.size = none := by
        have z : H5 ce.locals = none := I6.free
        rw [cL] at z
        exact z
      obtain ⟨m, hn, _⟩ := I6.loc
      have hn : s6.heap.Ns ce.locals m := hn
      rw [cL] at hn
      exact hRR D s3.heap.objs.size s6 m H5 I7 qq hn (I3.fpOk (Nat.le_refl _) nC)
    · have ti := T.item (X.blk s3 H3 scope ce fp) rfl rfl rfl hc i [] s5 _ H5 (fun _ _ => False) I5 (stat I5 n5) st5 go
      refine thnF ti fun r s6 ⟨u, hr, h6⟩ => ?_
      subst hr
      refine thnF h6 fun _ s7 ⟨x, H7, I7, r7, y7, st7, n7⟩ => ?_
      have I7' := I7.pinned (stat I7 n7) (T.obj _ _ st7)
      refine thnF (pg.run _ s7 _ H7 x u _ I7' r7 (step x H7 y7)) fun _ s8 ⟨σ8, H8, I8, hw8, q8⟩ => ?_
      refine thnF (pt.run _ s8 σ8 H8 _ I8 q8) fun b s9 ⟨H9, I9, q9⟩ => ?_
      have fin : ∀ {σ9 : L2.St} {s' : Shared} {H' : Hp}, Inv (X.blk s3 H3 scope ce fp) ([] ++ pinsAt fp s7.heap) σ9 H' s' → (wipe σ (own.map (·.2))).length = σ9.length → (∀ (j : Nat) v, (wipe σ (own.map (·.2)))[j]? = some (some v) → σ9[j]? = some (some v)) → Nx H' →
          ∃ m, m < n ∧ ∃ i H', Inv (X.blk s3 H3 scope ce fp) [] (wipe σ (own.map (·.2))) H' s' ∧ tn i s'.heap ∧ (∀ b ∈ fp, H' b = none) ∧ W i m H' := fun {σ9 s' H'} I' hl hk nx => by
        obtain ⟨m', hm, w'⟩ := hNx H' nx
        have pin' : ∀ b ∈ fp, ∀ o, s7.heap.get? b = some o → s'.heap.get? b = some o ∧ H' b = none := fun b hb o e =>
          let z := I'.pin (b, o) (List.mem_append_right _ (List.mem_append_right _ (mem_pinsAt hb e)))
          ⟨z.1, z.2.1⟩
        refine ⟨m', hm, i + 1, H', (I'.unpinned (pins := [])).weak hl hk, T.keep _ _ _ st7 fun b hb o e => (pin' b hb o e).1, fun b hb => ?_, w'⟩
        obtain ⟨o, e, _⟩ := T.obj _ _ st7 b hb
        exact (pin' b hb o e).2
      have hl8 : (wipe σ (own.map (·.2))).length = σ8.length := by rw [← hw8, wipe_length]
      have hk8 : ∀ (j : Nat) v, (wipe σ (own.map (·.2)))[j]? = some (some v) → σ8[j]? = some (some v) := fun j v e => by
        rw [← hw8] at e
        exact (wipe_some e).1
      have hk9 : ∀ (j : Nat) v, (wipe σ (own.map (·.2)))[j]? = some (some v) → (wipe σ8 vs1)[j]? = some (some v) := fun j v e => by
        rw [← hw8] at e
        obtain ⟨e1, e2⟩ := wipe_some e
        rw [wipe_out fun z => e2 (hv j z)]
        exact e1
      cases b with
      | false =>
        simp only [Bool.false_eq_true, if_false] at q9 ⊢
        exact fin I9 hl8 hk8 q9
      | true =>
        simp only [if_true] at q9 ⊢
        refine thnF (pin1 D _ s9 σ8 H9 Nx I9 q9) fun xv s10 hx => thnF hx fun itv s11 h11 => codeAny_mono h11 fun r s12 hr => ?_
        match r, hr with
        | .error _, hr => exact hr.elim
        | .ok _, ⟨σ', H', I12, hl, hk, nx⟩ => exact fin I12 (hl8.trans hl) (fun j v e => hk j v (hk9 j v e)) nx
  exact codeAny_compStart_list loop (T.self X.A 0 _ _ _ st4 loop)
/-- name = [..], four clauses -/
theorem ps_setLc4 {i : Nat} {y : Str} {py : Pos} {own : List (Str × Nat)} {vs1 : List Nat} {spos : Pos} {wi : TI} {g : TG} {tt : TT} {tin : TCl} (hc : X.calm = true) (hN : X.N.Nodup) (hy : X.N[i]? = some y) (hyl : X.env.scope.names.lookup y = some .local)
    (hsw : swapsWith (lc4 elt t0 i0 t1 i1 t2 i2 t3 i3 f0 f1 f2 f3 scope pos) (some (.Name y py)) spos.line X.env = pure true) (hi : PI X t0 i0 wi) (ok : BlkOk X.N X.env.scope scope own) (hv : ∀ i ∈ vs1, i ∈ own.map (·.2))
    (hg : ∀ (s : Shared) (H : Hp) (C : Addr) (cl : List (Str × Addr)) (fp : List Addr), PG (X.blk s H scope (compEnvC scope cl C X.env) fp) t0 g) (ht : ∀ (s : Shared) (H : Hp) (C : Addr) (cl : List (Str × Addr)) (fp : List Addr), PTs (X.blk s H scope (compEnvC scope cl C X.env) fp) f0 tt)
    (hin : ∀ (s : Shared) (H : Hp) (C : Addr) (cl : List (Str × Addr)) (fp : List Addr), InnerOk (X.blk s H scope (compEnvC scope cl C X.env) fp) (lc4 elt t0 i0 t1 i1 t2 i2 t3 i3 f0 f1 f2 f3 scope pos) i1 1 vs1 tin)
    (hs : ∀ x, foldedSetIterable i0 X.env x = pure x := by intro _; rfl) (hs1 : ∀ env x, foldedSetIterable i1 env x = pure x := by intro _ _; rfl) :
    PS X (.Assign [.Name y py] (lc4 elt t0 i0 t1 i1 t2 i2 t3 i3 f0 f1 f2 f3 scope pos) spos) (tAsg (tLc4 wi g tt tin (own.map (·.2))) (gName i)) := by
  refine ⟨fun pins s σ H D I h => ?_⟩
  rw [exec_Assign_Name_used _ _ _ _ hsw]
  refine wpAny_bind (wpAny_standAt (wpAny_bind ?_))
  show wpAny _ X.A (do let _ ← comprehension (lc4 elt t0 i0 t1 i1 t2 i2 t3 i3 f0 f1 f2 f3 scope pos) scope X.env (firstIterPos [⟨t0, i0, f0, 0⟩, ⟨t1, i1, f1, 0⟩, ⟨t2, i2, f2, 0⟩, ⟨t3, i3, f3, 0⟩] pos) (newList []) false (eval i0 X.env) (some (assign (.Name y py) X.env))) _ _ s
  have h : tLc4 wi g tt tin (own.map (·.2)) σ H (fun x H1 => gName i x σ H1 D.nx) := h
  refine wpAny_bind (thn (lc4_core (Qf := fun _ s' => SP X pins D .next s') hc hN I hi ok hv hg ht hin hs hs1 h fun L C s' m H' I' q hn f => ?_) fun _ s' hq => wpAny_pure (wpAny_pure hq))
  show wpAny _ _ (assign (.Name y py) X.env (.ref L)) _ _ _
  refine wpAny_assign_Name (store_ok2 (v := V.ref L) I' hN hy (.inl hyl) rfl (fun s2 I2 ⟨a, sb, ha⟩ => ?_) (.inr hyl))
  obtain ⟨f0, f1, f2, f3, f4, f5⟩ := f
  have haC : C ≠ a := by
    rcases ha with z | z
    · rw [z]; exact f1
    · exact fun e => f4 y a z e.symm
  refine ⟨m, hn.sameBut sb haC, fun h3 sb3 => ?_⟩
  exact ⟨_, H', I2.turned (t' := s2.toks) (fun b o hb e => (sb3.2 b hb).trans e) f0 f1 f3 f4 f5, q⟩
end
end KT

/-! sum(a list of lists, []) -/
namespace KT
open PySem PySem.Spec PyProof.Rows L2
theorem sub_lst_str : isSubtype (.type "list") (.type "str") = pure false := by rw [isSubtype_type]; kernel_rfl
theorem sub_lst_bytes : isSubtype (.type "list") (.type "bytes") = pure false := by rw [isSubtype_type]; kernel_rfl
theorem sub_lst_bytearray : isSubtype (.type "list") (.type "bytearray") = pure false := by rw [isSubtype_type]; kernel_rfl
theorem args_sum2 (a b : Value) : argsOk "sum" ⟨[a, b], []⟩ := by unfold argsOk; kernel_rfl
def Inner (h : Heap) (its : Array Value) (xss : List (List Value)) : Prop := ∀ (i : Nat) (v : Value), its[i]? = some v → ∃ (a : Addr) (n : Nat) (xs : List Value), v = .ref a ∧ xss[i]? = some xs ∧ IsL h a xs.toArray n
section
variable {prog : Program} {w : World} {A : Around} {R : Result → Shared → Prop} {I l : Addr} {its : Array Value} {xss : List (List Value)}
theorem loop_sumL (hh : A.handled = none) (hne : l ≠ I) (hl : xss.length = its.size) (hz : xss.flatten.length ≤ sizeLine) (S T0 b0 : Addr) (hSI : S ≠ I) (hSl : S ≠ l) (hb : b0 ≤ S) (hI : b0 ≤ I) :
    ∀ (k i : Nat) (s : Shared) (T : Addr) (c cT : Nat), its.size - i = k → i ≤ its.size → (s.heap.IsListIter I l i ∧ s.heap.IsList l its) → s.heap.get? S = some { cls := .type "list", dict := none, data := .seq #[.ref T] c, slots := #[] } →
    IsL s.heap T (xss.take i).flatten.toArray cT → T ≠ S → T ≠ I → (i = 0 ∧ T = T0 ∨ b0 ≤ T) →
    (∀ (j : Nat) (v : Value), its[j]? = some v → ∃ (a : Addr) (n : Nat) (xs : List Value), v = .ref a ∧ a ≠ S ∧ a ≠ I ∧ xss[j]? = some xs ∧ IsL s.heap a xs.toArray n) →
    (∀ h' tk T' c', (∀ b o, b ≠ I → b ≠ S → s.heap.get? b = some o → h'.get? b = some o) → (its.size = 0 ∧ T' = T0 ∨ b0 ≤ T') → IsL h' T' xss.flatten.toArray c' → R (.ok (.ret (.ref T'))) { s with heap := h', toks := tk }) →
    codeAny (model prog w) A (.builtin "sum.loop" ⟨[.ref I, .ref S, rawInt 2, rawInt 0], []⟩) R s := by
  have W := Walks.list (prog := prog) (w := w) (A := A.in1) hh I l hne its
  intro k
  induction k with
  | zero =>
    intro i s T c cT hk hi hst hS hT hTS hTI hT0 hin hR
    have hin : i = its.size := by omega
    subst hin
    refine codeAny_builtin F.entry_sum_loop ?_
    rw [Around.under_plainId F.plain_sum_loop _]
    show wpAny _ A.in1 (seqItems? (.ref S) >>= _) _ _ s
    refine wpAny_bind (wpAny_seqItems hS rfl ?_)
    show wpAny _ A.in1 (tryCatch (pyNext (.ref I)) _ >>= _) _ _ s
    refine wpAny_bind (wpAny_tryCatch (W.done s _ _ hst fun h' tk hk' => ?_))
    have hk2 : ∀ b o, b ≠ I → s.heap.get? b = some o → h'.get? b = some o := fun b o hb e => hk' b o (by simpa using hb) e
    refine wpAny_pure (hR h' tk T cT (fun b o hbI _ e => hk2 b o hbI e) hT0 ?_)
    rw [← hl, List.take_length] at hT
    exact hk2 T _ hTI hT
  | succ k ih =>
    intro i s T c cT hk hi hst hS hT hTS hTI hT0 hin hR
    have hlt : i < its.size := by omega
    refine codeAny_builtin F.entry_sum_loop ?_
    rw [Around.under_plainId F.plain_sum_loop _]
    show wpAny _ A.in1 (seqItems? (.ref S) >>= _) _ _ s
    refine wpAny_bind (wpAny_seqItems hS rfl ?_)
    show wpAny _ A.in1 (tryCatch (pyNext (.ref I)) _ >>= _) _ _ s
    refine wpAny_bind (wpAny_tryCatch (W.item i s _ _ hlt hst fun v h' tk hP hst' hk' => ?_))
    have hk2 : ∀ b o, b ≠ I → s.heap.get? b = some o → h'.get? b = some o := fun b o hb e => hk' b o (by simpa using hb) e
    obtain ⟨a, n, xs, rfl, haS, haI, hxs, hax⟩ := hin i v hP
    have hS' := hk2 S _ hSI hS
    have hT' : IsL h' T (xss.take i).flatten.toArray cT := hk2 T _ hTI hT
    have hax' : IsL h' a xs.toArray n := hk2 a _ haI hax
    have fl : (xss.take (i + 1)).flatten = (xss.take i).flatten ++ xs := by rw [List.take_add_one, hxs, List.flatten_append]; simp
    have hsz : (xss.take i).flatten.toArray.size + xs.toArray.size ≤ sizeLine := by
      have q : (xss.take (i + 1)).flatten.length ≤ xss.flatten.length := by
        conv => rhs; rw [← List.take_append_drop (i + 1) xss, List.flatten_append, List.length_append]
        omega
      rw [fl, List.length_append] at q
      rw [List.size_toArray, List.size_toArray]
      omega
    show wpAny _ A.in1 ((holding [Value.ref a] (binaryOp .Add (.ref T) (.ref a))).attempt >>= _) _ _ _
    refine wpAny_bind (wpAny_attempt (wpAny_holding (PySem.P.add_list hT' hax' ?_ hsz)))
    generalize hp : Heap.push h' { cls := .type "list", data := .seq ((xss.take i).flatten.toArray ++ xs.toArray) } = h2
    have hpo : ∀ b o, h'.get? b = some o → h2.get? b = some o := fun b o e => by rw [← hp]; exact Heap.get?_push_of_some _ e
    have hN : IsL h2 h'.objs.size ((xss.take (i + 1)).flatten).toArray 0 := by
      rw [fl, ← hp]
      have e : ((xss.take i).flatten ++ xs).toArray = (xss.take i).flatten.toArray ++ xs.toArray := by simp
      rw [e]
      exact Heap.get?_push_size _ rfl
    have hS2 := hpo S _ hS'
    have ltS : S < h'.objs.size := Heap.lt_size hS'
    have ltI : I < h'.objs.size := by obtain ⟨o, e, _⟩ := hst'.1; exact Heap.lt_size e
    have ltl : l < h'.objs.size := by obtain ⟨o, e, _⟩ := hst'.2; exact Heap.lt_size e
    show wpAny _ A.in1 (updateSeq S (fun _ => #[.ref h'.objs.size]) >>= _) _ _ _
    refine wpAny_bind (wpAny_updateSeq (s := { s with heap := h2, toks := tk }) hS2 rfl ?_)
    have hS3 := Heap.get?_update_self (Obj.mapSeq fun _ => #[Value.ref h'.objs.size]) hS2 rfl
    refine wpAny_bind (wpAny_letGo ?_)
    refine wpAny_bind (wpAny_updateSeq (s := { s with heap := h2.update S (Obj.mapSeq fun _ => #[Value.ref h'.objs.size]), toks := tk }) hS3 rfl ?_)
    have old : ∀ b o, b ≠ S → h'.get? b = some o → ((h2.update S (Obj.mapSeq fun _ => #[Value.ref h'.objs.size])).update S (Obj.mapSeq fun _ => #[Value.ref h'.objs.size])).get? b = some o := fun b o hb e =>
      (Heap.get?_update_other _ _ (Ne.symm hb)).trans ((Heap.get?_update_other _ _ (Ne.symm hb)).trans (hpo b o e))
    refine wpAny_pure ⟨plainId_quiet F.plain_sum_loop _, ih (i + 1) _ h'.objs.size _ 0 (by omega) hlt ⟨hst'.1.at fun o e => old I o hSI.symm e, hst'.2.at fun o e => old l o hSl.symm e⟩ (Heap.get?_update_self _ hS3 rfl) ?_ (Nat.ne_of_gt ltS) (Nat.ne_of_gt ltI) (.inr (Nat.le_trans hb (Nat.le_of_lt ltS))) (fun j v hj => ?_) fun h'' tk'' T' c' hk'' hb' hT'' => ?_⟩
    · exact (Heap.get?_update_other _ _ (Nat.ne_of_lt ltS)).trans ((Heap.get?_update_other _ _ (Nat.ne_of_lt ltS)).trans hN)
    · obtain ⟨a', n', xs', e1, e2, e3, e4, e5⟩ := hin j v hj
      exact ⟨a', n', xs', e1, e2, e3, e4, old a' _ e2 (hk2 a' _ e3 e5)⟩
    · exact hR h'' tk'' T' c' (fun b o hbI hbS e => hk'' b o hbI hbS (old b o hbS (hk2 b o hbI e))) hb' hT''
end
section
variable {prog : Program} {w : World} {A : Around} {E : Value → Shared → Prop} {s : Shared} {l T0 : Addr} {its : Array Value} {xss : List (List Value)}
theorem call_sumL {Q : Value → Shared → Prop} {c0 : Nat} (hh : A.handled = none) (hl : s.heap.IsList l its) (hi : Inner s.heap its xss) (hlen : xss.length = its.size) (hz : xss.flatten.length ≤ sizeLine) (h0 : IsL s.heap T0 #[] c0)
    (h : ∀ h' tk T' c', (∀ b o, s.heap.get? b = some o → h'.get? b = some o) → (its.size = 0 ∧ T' = T0 ∨ s.heap.objs.size ≤ T') → IsL h' T' xss.flatten.toArray c' → Q (.ref T') { s with heap := h', toks := tk }) :
    wpAny (model prog w) A (call (.builtin "sum") [.ref l, .ref T0]) Q E s := by
  refine call_function_tree F.kind_sum F.plain_sum F.entry_sum (args_sum2 _ _) ?_
  unfold Builtin.«sum»
  simp only [List.length_cons, List.length_nil]
  rw [if_neg (by decide)]
  refine wpAny_bind (wpAny_of_eq (show Builtin.Builtins.bindParams "sum" ["start"] 0 ⟨[.ref T0], []⟩ = pure [some (.ref T0)] from rfl) ?_)
  have hlt : l < s.heap.objs.size := by obtain ⟨_, e, _⟩ := hl; exact Heap.lt_size e
  refine wpAny_bind (wpAny_pyIter_list hl ?_)
  refine wpAny_bind (wpAny_pure ?_)
  generalize hp : s.heap.push { cls := .type "list_iterator", data := .fields #[.ref l, .int 0 0] } = h2
  have hpo : ∀ b o, s.heap.get? b = some o → h2.get? b = some o := fun b o e => by rw [← hp]; exact Heap.get?_push_of_some _ e
  have hIt : h2.IsListIter s.heap.objs.size l 0 := by rw [← hp]; exact ⟨_, Heap.get?_push_size _ rfl, rfl, rfl⟩
  have hT : Shared.TypeIs { s with heap := h2 } (.ref T0) "list" := ⟨_, hpo _ _ h0, rfl⟩
  have s2 : h2.objs.size = s.heap.objs.size + 1 := by rw [← hp]; exact Heap.size_push ..
  simp only [List.forIn_cons, List.forIn_nil]
  refine wpAny_bind (wpAny_bind (wpAny_bind (wpAny_isInstance (T := "list") (b := false) hT sub_lst_str ?_)))
  simp only [Bool.false_eq_true, if_false]
  refine wpAny_pure (wpAny_bind (wpAny_bind (wpAny_isInstance (T := "list") (b := false) hT sub_lst_bytes ?_)))
  simp only [Bool.false_eq_true, if_false]
  refine wpAny_pure (wpAny_bind (wpAny_bind (wpAny_isInstance (T := "list") (b := false) hT sub_lst_bytearray ?_)))
  simp only [Bool.false_eq_true, if_false]
  refine wpAny_pure (wpAny_pure ?_)
  refine wpAny_bind (wpAny_newObj_type ?_)
  have lt0 : T0 < s.heap.objs.size := Heap.lt_size h0
  have n1 : s.heap.objs.size < h2.objs.size := by rw [s2]; exact Nat.lt_succ_self _
  have po : ∀ b o, s.heap.get? b = some o → (h2.push { cls := .type "list", dict := none, data := .seq #[.ref T0] 0, slots := #[] }).get? b = some o := fun b o e => Heap.get?_push_of_some _ (hpo b o e)
  refine wpAny_pure ⟨plainId_quiet F.plain_sum_loop _, loop_sumL (xss := xss) hh (Nat.ne_of_lt hlt) hlen hz h2.objs.size T0 s.heap.objs.size (Nat.ne_of_gt n1) (Nat.ne_of_gt (Nat.lt_trans hlt n1)) (Nat.le_of_lt n1) (Nat.le_refl _) its.size 0 _ T0 0 c0 (by omega) (Nat.zero_le _)
    ⟨hIt.at fun o e => Heap.get?_push_of_some _ e, hl.at fun o e => po _ _ e⟩ (Heap.get?_push_size _ rfl) (by simpa using po _ _ h0) (Nat.ne_of_lt (Nat.lt_trans lt0 n1)) (Nat.ne_of_lt lt0) (.inl ⟨rfl, rfl⟩) (fun j v hj => ?_) fun h' tk T' c' hk hb hT' => ?_⟩
  · obtain ⟨a, n, xs, e1, e2, e3⟩ := hi j v hj
    have := Heap.lt_size e3
    exact ⟨a, n, xs, e1, Nat.ne_of_lt (Nat.lt_trans this n1), Nat.ne_of_lt this, e2, po _ _ e3⟩
  · refine h h' tk T' c' (fun b o e => ?_) hb hT'
    have := Heap.lt_size e
    exact hk b o (Nat.ne_of_lt this) (Nat.ne_of_lt (Nat.lt_trans this n1)) (po b o e)
end
end KT

namespace KT
open PySem PySem.Spec PyProof.Rows L2
section
variable {X : Cx}
theorem inner_of {pins : List (Addr × Obj)} {σ : L2.St} {H : Hp} {s : Shared} (I : Inv X pins σ H s) : ∀ {as : List Addr} {yss : List (List V)}, Paired (fun (a : Addr) (ys : List V) => H a = some (.lst ys)) as yss →
    ∃ xss : List (List Value), xss.length = as.length ∧ Vals yss.flatten xss.flatten ∧ ∀ (j : Nat) (a : Addr), as[j]? = some a → ∃ (n : Nat) (xs : List Value), xss[j]? = some xs ∧ IsL s.heap a xs.toArray n
  | [], [], .nil => ⟨[], rfl, .nil, fun j a e => by simp at e⟩
  | a :: as, ys :: yss, .cons h t => by
    obtain ⟨xss, h1, h2, h3⟩ := inner_of I t
    obtain ⟨_, its, n, rv, g⟩ := I.hok a _ h
    refine ⟨its :: xss, by simp [h1], by rw [List.flatten_cons, List.flatten_cons]; exact rv.append h2, fun j b e => ?_⟩
    match j, e with
    | 0, e =>
      obtain rfl := Option.some.inj e
      exact ⟨n, its, rfl, g⟩
    | j + 1, e => exact h3 j b (by simpa using e)
/-- sum(xs, []), xs a list of lists, not empty -/
theorem cr_sumL (hc : X.calm = true) : CallR X (.builtin "sum") (fun vs H Q => ∃ (l e : Addr) (as : List Addr) (yss : List (List V)), vs = [.ref l, .ref e] ∧ H l = some (.lst (as.map V.ref)) ∧ H e = some (.lst []) ∧ as ≠ [] ∧
    Paired (fun (a : Addr) (ys : List V) => H a = some (.lst ys)) as yss ∧ yss.flatten.length ≤ sizeLine ∧ ∀ p, H p = none → Q (.ref p) (upd H p (.lst yss.flatten))) := by
  intro pins s σ H vs us Q I r h
  obtain ⟨l, e, as, yss, rfl, hl, he, hne, hp, hz, q⟩ := h
  obtain ⟨u, v, rfl, ru, rv⟩ := vals2 r
  obtain rfl : u = Value.ref l := ru
  obtain rfl : v = Value.ref e := rv
  obtain ⟨zl, its, n, vl, gl⟩ := I.hok l _ hl
  have ei := refs_at vl
  subst ei
  obtain ⟨_, its0, n0, v0, g0⟩ := I.hok e _ he
  cases v0
  obtain ⟨xss, h1, h2, h3⟩ := inner_of I hp
  have ll : (as.map Value.ref).toArray.size = as.length := by simp
  refine call_sumL (I.ok.hd hc) (xss := xss) (PySem.IsL.isList gl) (fun i v hv => ?_) (by rw [ll, h1]) (by rw [← h2.length]; exact hz) g0 fun h' tk T' c' hk hb hT => ?_
  · rw [List.getElem?_toArray, List.getElem?_map] at hv
    obtain ⟨a, ha, rfl⟩ := Option.map_eq_some_iff.mp hv
    obtain ⟨n', xs, e1, e2⟩ := h3 i a ha
    exact ⟨a, n', xs, rfl, e1, e2⟩
  · have le : s.heap.objs.size ≤ T' := by
      rcases hb with ⟨z, _⟩ | z
      · rw [ll] at z
        exact absurd (List.eq_nil_of_length_eq_zero z) hne
      · exact z
    exact ⟨.ref T', upd H T' (.lst yss.flatten), I.laid (t' := tk) hk le (show ObjOk X.prog X.w _ _ _ (.lst yss.flatten) from ⟨hz, xss.flatten, c', h2, hT⟩), rfl, q T' (I.hok.fresh le)⟩
end
/-! ### calls by keyword alone -/
def tCallK0 (sp : Sp) (gV : List V → List V → List V) (E : XK) (tk : TA) : TE := fun σ H Q => tk σ H fun zs H2 => sp (gV [] zs) H2 Q E
section
variable {X : Cx} {CX : CXT} {k : Nat} {f : Addr} {fd : FuncData} {ps ks : List Str} {sp : Sp} {E : XK} {x : Str} {p pos : Pos} {kws : List Keyword} {tk : TA} {g : List Value → List Value → List Value} {gV : List V → List V → List V}
theorem pe_callK0 (F : FnOk X.prog X.w X.K X.mg X.base CX k f fd ps sp) (hr : Room k X.A) (hg : Gl X x) (hm : X.mg x = some (.ref f)) (hk : PySem.W.keepIn X.K (.ref f) = true) (hb : KBinds X.K fd ps ks g gV) (hx : Passes CX X E)
    (hkw : PK X kws tk) (hall : (backToKw pos (keywordEach kws X.env)).all (·.1.isSome) = true := by rfl) (hks : (backToKw pos (keywordEach kws X.env)).filterMap (·.1) = ks := by rfl)
    (hdb : (x == ("__debug__" : Str)) = false := by decide) (hpl : ((backTo pos (starEach [] X.env)).any (·.1) || (backToKw pos (keywordEach kws X.env)).any (·.1.isNone)) = false := by rfl) :
    PE X (.Call (.Name x p) [] kws pos) (tCallK0 sp gV E tk) := by
  refine ⟨fun pins s σ H Q I h => ?_⟩
  refine wpAny_Call_Name_kw (ld_glob I hg hm ?_ hdb)
  refine PySem.W.callWith_KW0 (h₀ := X.base) I.ok.mod.kin hk hall (thn (hkw.run pos pins s σ H _ I h) fun ws s2 ⟨zs, H2, I2, rz, q2⟩ => ⟨I2.kIn, ?_⟩) hpl
  rw [hks]
  exact run_fnk (us := []) F hr hb hx I2 .nil rz q2
/-- nothing by place, the keywords' values in the order of the parameters by f -/
def gK {α : Type} (f : List α → List α) (us ws : List α) : List α := match us with
  | [] => f ws
  | _ => []
theorem kbinds_mk {K : PySem.W.Frag} {q : Str} {st : Stmt} (F : Fun K x q st f fd) (h1 : ps ≠ []) (fo : ∀ {α : Type}, List α → List α)
    (h : ∀ (kV doc pm : Value) (an : Option Addr) (cdv ct : Value) (ws : List Value), (fo ws).length = ps.length → bindArgs (PySem.W.fnOf x q (defArgs st) (defBody st) (defScope st) .none kV doc pm an cdv ct) ⟨[], ks.zip ws⟩ = pure (ps.zip (fo ws)))
    (hr : ∀ {zs : List V} {ws : List Value}, Vals zs ws → Vals (fo zs) (fo ws)) : KBinds K fd ps ks (gK fo) (gK fo) := by
  obtain ⟨oc, od, kV, doc, pm, an, cdv, ct, osl, rfl, lk, hcd⟩ := F.ex
  refine ⟨fun s us ws _ hl => ?_, fun {vs us zs ws} r rz => ?_⟩
  · cases us with
    | nil => exact .of_eq (h kV doc pm an cdv ct ws hl)
    | cons u us =>
      exact absurd (List.eq_nil_of_length_eq_zero (by rw [← hl]; rfl)) h1
  · cases r with
    | nil => exact hr rz
    | cons _ _ => exact .nil
end
end KT

namespace K3
open PySem PySem.Spec PyProof.Rows L2
open PySem.W (Frag)
/-! ### the text by places -/
def top (i : Nat) : Stmt := PySem.Challenge.pw_phrasejoins_k03_whole_types.main.body.getD i (.Pass ⟨0, 0, 0, 0⟩)
abbrev sNodesIn : Stmt := top 7
abbrev sFromInside : Stmt := top 8
abbrev sIsWord : Stmt := top 11
abbrev sIsCount : Stmt := top 12
abbrev sIsSigned : Stmt := top 15
abbrev sIsKind : Stmt := top 16
abbrev sCheckKind : Stmt := top 17
abbrev sPartsOf : Stmt := top 18
abbrev sKindsIn : Stmt := top 19
abbrev sFolded : Stmt := top 20
abbrev sSignsOf : Stmt := top 21
abbrev sPlainsIn : Stmt := top 22
abbrev sPlainsOf : Stmt := top 23
abbrev sIsFree : Stmt := top 24
abbrev sTurnedSign : Stmt := top 25
abbrev sTurned : Stmt := top 26
abbrev sCheckMap : Stmt := top 27
abbrev sPutIn : Stmt := top 28
abbrev sPutFor : Stmt := top 29
abbrev sCheckPlains : Stmt := top 30
abbrev sCheckCount : Stmt := top 31
abbrev sAllKinds : Stmt := top 32
abbrev sManyKinds : Stmt := top 33
abbrev sLPurse : Stmt := top 35
abbrev sLMixed : Stmt := top 36
abbrev sLDraw : Stmt := top 37
abbrev sLPurses : Stmt := top 38
abbrev sLOneOf : Stmt := top 39
abbrev sLShuffled : Stmt := top 40
abbrev sLExact : Stmt := top 41
abbrev sLWord : Stmt := top 42
abbrev sLWords : Stmt := top 43
abbrev sLPlains : Stmt := top 44
abbrev sLKind : Stmt := top 45
abbrev sLFreeKind : Stmt := top 46
abbrev sLPlainList : Stmt := top 47
abbrev sLPlainWords : Stmt := top 48
abbrev sLTurned : Stmt := top 49
abbrev sLText : Stmt := top 50
abbrev sLPut : Stmt := top 51
abbrev sLInOrder : Stmt := top 52
abbrev sLCountTo : Stmt := top 53
abbrev sLKindRight : Stmt := top 54
abbrev sLListsRight : Stmt := top 55
abbrev sLaw : Stmt := top 56
abbrev nNodesIn : List Str := ["root", "parts_of", "waiting", "nodes", "node"]
abbrev pNodesIn : List Str := ["root", "parts_of"]
theorem scNodesIn : FnScope nNodesIn pNodesIn (defScope sNodesIn) := ⟨rfl, rfl, rfl, by decide +kernel, rfl, by decide +kernel, by decide +kernel⟩
abbrev nFromInside : List Str := ["root", "parts_of", "at_node", "came", "node", "begin", "parts"]
abbrev pFromInside : List Str := ["root", "parts_of", "at_node"]
theorem scFromInside : FnScope nFromInside pFromInside (defScope sFromInside) := ⟨rfl, rfl, rfl, by decide +kernel, rfl, by decide +kernel, by decide +kernel⟩
abbrev nIsWord : List Str := ["value", "letter"]
abbrev pIsWord : List Str := ["value"]
theorem scIsWord : FnScope nIsWord pIsWord (defScope sIsWord) := ⟨rfl, rfl, rfl, by decide +kernel, rfl, by decide +kernel, by decide +kernel⟩
abbrev nIsCount : List Str := ["value"]
abbrev pIsCount : List Str := ["value"]
theorem scIsCount : FnScope nIsCount pIsCount (defScope sIsCount) := ⟨rfl, rfl, rfl, by decide +kernel, rfl, by decide +kernel, by decide +kernel⟩
abbrev nIsSigned : List Str := ["value"]
abbrev pIsSigned : List Str := ["value"]
theorem scIsSigned : FnScope nIsSigned pIsSigned (defScope sIsSigned) := ⟨rfl, rfl, rfl, by decide +kernel, rfl, by decide +kernel, by decide +kernel⟩
abbrev nIsKind : List Str := ["value", "waiting", "part"]
abbrev pIsKind : List Str := ["value"]
theorem scIsKind : FnScope nIsKind pIsKind (defScope sIsKind) := ⟨rfl, rfl, rfl, by decide +kernel, rfl, by decide +kernel, by decide +kernel⟩
abbrev nCheckKind : List Str := ["kind"]
abbrev pCheckKind : List Str := ["kind"]
theorem scCheckKind : FnScope nCheckKind pCheckKind (defScope sCheckKind) := ⟨rfl, rfl, rfl, by decide +kernel, rfl, by decide +kernel, by decide +kernel⟩
abbrev nPartsOf : List Str := ["kind"]
abbrev pPartsOf : List Str := ["kind"]
theorem scPartsOf : FnScope nPartsOf pPartsOf (defScope sPartsOf) := ⟨rfl, rfl, rfl, by decide +kernel, rfl, by decide +kernel, by decide +kernel⟩
abbrev nKindsIn : List Str := ["kind"]
abbrev pKindsIn : List Str := ["kind"]
theorem scKindsIn : FnScope nKindsIn pKindsIn (defScope sKindsIn) := ⟨rfl, rfl, rfl, by decide +kernel, rfl, by decide +kernel, by decide +kernel⟩
abbrev nFolded : List Str := ["kind", "at_plain", "at_signed", "at_part"]
abbrev pFolded : List Str := ["kind", "at_plain", "at_signed"]
theorem scFolded : FnScope nFolded pFolded (defScope sFolded) := ⟨rfl, rfl, rfl, by decide +kernel, rfl, by decide +kernel, by decide +kernel⟩
abbrev nSignsOf : List Str := ["kind", "part"]
abbrev pSignsOf : List Str := ["kind"]
theorem scSignsOf : FnScope nSignsOf pSignsOf (defScope sSignsOf) := ⟨rfl, rfl, rfl, by decide +kernel, rfl, by decide +kernel, by decide +kernel⟩
abbrev nPlainsIn : List Str := ["kinds", "kind", "part"]
abbrev pPlainsIn : List Str := ["kinds"]
theorem scPlainsIn : FnScope nPlainsIn pPlainsIn (defScope sPlainsIn) := ⟨rfl, rfl, rfl, by decide +kernel, rfl, by decide +kernel, by decide +kernel⟩
abbrev nPlainsOf : List Str := ["kind"]
abbrev pPlainsOf : List Str := ["kind"]
theorem scPlainsOf : FnScope nPlainsOf pPlainsOf (defScope sPlainsOf) := ⟨rfl, rfl, rfl, by decide +kernel, rfl, by decide +kernel, by decide +kernel⟩
abbrev nIsFree : List Str := ["kind", "part"]
abbrev pIsFree : List Str := ["kind"]
theorem scIsFree : FnScope nIsFree pIsFree (defScope sIsFree) := ⟨rfl, rfl, rfl, by decide +kernel, rfl, by decide +kernel, by decide +kernel⟩
abbrev nTurnedSign : List Str := ["sign", "first", "second"]
abbrev pTurnedSign : List Str := ["sign", "first", "second"]
theorem scTurnedSign : FnScope nTurnedSign pTurnedSign (defScope sTurnedSign) := ⟨rfl, rfl, rfl, by decide +kernel, rfl, by decide +kernel, by decide +kernel⟩
abbrev nTurned : List Str := ["kind"]
abbrev pTurned : List Str := ["kind"]
theorem scTurned : FnScope nTurned pTurned (defScope sTurned) := ⟨rfl, rfl, rfl, by decide +kernel, rfl, by decide +kernel, by decide +kernel⟩
abbrev nCheckMap : List Str := ["sent", "plains", "word"]
abbrev pCheckMap : List Str := ["sent", "plains"]
theorem scCheckMap : FnScope nCheckMap pCheckMap (defScope sCheckMap) := ⟨rfl, rfl, rfl, by decide +kernel, rfl, by decide +kernel, by decide +kernel⟩
abbrev nPutIn : List Str := ["kind", "sent"]
abbrev pPutIn : List Str := ["kind", "sent"]
theorem scPutIn : FnScope nPutIn pPutIn (defScope sPutIn) := ⟨rfl, rfl, rfl, by decide +kernel, rfl, by decide +kernel, by decide +kernel⟩
abbrev nPutFor : List Str := ["kind", "sent"]
abbrev pPutFor : List Str := ["kind", "sent"]
theorem scPutFor : FnScope nPutFor pPutFor (defScope sPutFor) := ⟨rfl, rfl, rfl, by decide +kernel, rfl, by decide +kernel, by decide +kernel⟩
abbrev nCheckPlains : List Str := ["plains", "word", "place"]
abbrev pCheckPlains : List Str := ["plains"]
theorem scCheckPlains : FnScope nCheckPlains pCheckPlains (defScope sCheckPlains) := ⟨rfl, rfl, rfl, by decide +kernel, rfl, by decide +kernel, by decide +kernel⟩
abbrev nCheckCount : List Str := ["number"]
abbrev pCheckCount : List Str := ["number"]
theorem scCheckCount : FnScope nCheckCount pCheckCount (defScope sCheckCount) := ⟨rfl, rfl, rfl, by decide +kernel, rfl, by decide +kernel, by decide +kernel⟩
abbrev nAllKinds : List Str := ["plains", "number", "by_signs", "many", "made", "sign", "ahead", "first", "second"]
abbrev pAllKinds : List Str := ["plains", "number"]
theorem scAllKinds : FnScope nAllKinds pAllKinds (defScope sAllKinds) := ⟨rfl, rfl, rfl, by decide +kernel, rfl, by decide +kernel, by decide +kernel⟩
abbrev nManyKinds : List Str := ["plains", "number", "by_signs", "many", "pairs", "ahead"]
abbrev pManyKinds : List Str := ["plains", "number"]
theorem scManyKinds : FnScope nManyKinds pManyKinds (defScope sManyKinds) := ⟨rfl, rfl, rfl, by decide +kernel, rfl, by decide +kernel, by decide +kernel⟩
abbrev nLPurse : List Str := ["script", "at", "seed"]
abbrev pLPurse : List Str := ["script", "at"]
theorem scLPurse : FnScope nLPurse pLPurse (defScope sLPurse) := ⟨rfl, rfl, rfl, by decide +kernel, rfl, by decide +kernel, by decide +kernel⟩
abbrev nLMixed : List Str := ["seed", "spin", "at", "mixed"]
abbrev pLMixed : List Str := ["seed", "spin", "at"]
theorem scLMixed : FnScope nLMixed pLMixed (defScope sLMixed) := ⟨rfl, rfl, rfl, by decide +kernel, rfl, by decide +kernel, by decide +kernel⟩
abbrev nLDraw : List Str := ["purse", "many", "drawn", "found", "piece"]
abbrev pLDraw : List Str := ["purse", "many"]
theorem scLDraw : FnScope nLDraw pLDraw (defScope sLDraw) := ⟨rfl, rfl, rfl, by decide +kernel, rfl, by decide +kernel, by decide +kernel⟩
abbrev nLPurses : List Str := ["script", "few", "at"]
abbrev pLPurses : List Str := ["script", "few"]
theorem scLPurses : FnScope nLPurses pLPurses (defScope sLPurses) := ⟨rfl, rfl, rfl, by decide +kernel, rfl, by decide +kernel, by decide +kernel⟩
abbrev nLOneOf : List Str := ["purse", "some"]
abbrev pLOneOf : List Str := ["purse", "some"]
theorem scLOneOf : FnScope nLOneOf pLOneOf (defScope sLOneOf) := ⟨rfl, rfl, rfl, by decide +kernel, rfl, by decide +kernel, by decide +kernel⟩
abbrev nLShuffled : List Str := ["purse", "some", "found", "item"]
abbrev pLShuffled : List Str := ["purse", "some"]
theorem scLShuffled : FnScope nLShuffled pLShuffled (defScope sLShuffled) := ⟨rfl, rfl, rfl, by decide +kernel, rfl, by decide +kernel, by decide +kernel⟩
abbrev nLExact : List Str := ["mine", "theirs", "alike", "a", "b", "key"]
abbrev pLExact : List Str := ["mine", "theirs"]
theorem scLExact : FnScope nLExact pLExact (defScope sLExact) := ⟨rfl, rfl, rfl, by decide +kernel, rfl, by decide +kernel, by decide +kernel⟩
abbrev nLWord : List Str := ["purse", "size", "spin"]
abbrev pLWord : List Str := ["purse"]
theorem scLWord : FnScope nLWord pLWord (defScope sLWord) := ⟨rfl, rfl, rfl, by decide +kernel, rfl, by decide +kernel, by decide +kernel⟩
abbrev nLWords : List Str := ["purse", "many", "base", "near", "spot", "found", "spin", "word", "letter"]
abbrev pLWords : List Str := ["purse", "many"]
theorem scLWords : FnScope nLWords pLWords (defScope sLWords) := ⟨rfl, rfl, rfl, by decide +kernel, rfl, by decide +kernel, by decide +kernel⟩
abbrev nLPlains : List Str := ["purse", "most"]
abbrev pLPlains : List Str := ["purse", "most"]
theorem scLPlains : FnScope nLPlains pLPlains (defScope sLPlains) := ⟨rfl, rfl, rfl, by decide +kernel, rfl, by decide +kernel, by decide +kernel⟩
abbrev nLKind : List Str := ["purse", "plains", "signs", "first", "one", "other"]
abbrev pLKind : List Str := ["purse", "plains", "signs"]
theorem scLKind : FnScope nLKind pLKind (defScope sLKind) := ⟨rfl, rfl, rfl, by decide +kernel, rfl, by decide +kernel, by decide +kernel⟩
abbrev nLFreeKind : List Str := ["purse", "plains", "signs", "first", "one", "other"]
abbrev pLFreeKind : List Str := ["purse", "plains", "signs"]
theorem scLFreeKind : FnScope nLFreeKind pLFreeKind (defScope sLFreeKind) := ⟨rfl, rfl, rfl, by decide +kernel, rfl, by decide +kernel, by decide +kernel⟩
abbrev nLPlainList : List Str := ["kind"]
abbrev pLPlainList : List Str := ["kind"]
theorem scLPlainList : FnScope nLPlainList pLPlainList (defScope sLPlainList) := ⟨rfl, rfl, rfl, by decide +kernel, rfl, by decide +kernel, by decide +kernel⟩
abbrev nLPlainWords : List Str := ["kinds", "kind", "word"]
abbrev pLPlainWords : List Str := ["kinds"]
theorem scLPlainWords : FnScope nLPlainWords pLPlainWords (defScope sLPlainWords) := ⟨rfl, rfl, rfl, by decide +kernel, rfl, by decide +kernel, by decide +kernel⟩
abbrev nLTurned : List Str := ["kind"]
abbrev pLTurned : List Str := ["kind"]
theorem scLTurned : FnScope nLTurned pLTurned (defScope sLTurned) := ⟨rfl, rfl, rfl, by decide +kernel, rfl, by decide +kernel, by decide +kernel⟩
abbrev nLText : List Str := ["kind"]
abbrev pLText : List Str := ["kind"]
theorem scLText : FnScope nLText pLText (defScope sLText) := ⟨rfl, rfl, rfl, by decide +kernel, rfl, by decide +kernel, by decide +kernel⟩
abbrev nLPut : List Str := ["kind", "sent"]
abbrev pLPut : List Str := ["kind", "sent"]
theorem scLPut : FnScope nLPut pLPut (defScope sLPut) := ⟨rfl, rfl, rfl, by decide +kernel, rfl, by decide +kernel, by decide +kernel⟩
abbrev nLInOrder : List Str := ["plains", "signs", "found", "word", "first", "rest", "one", "other"]
abbrev pLInOrder : List Str := ["plains", "signs"]
theorem scLInOrder : FnScope nLInOrder pLInOrder (defScope sLInOrder) := ⟨rfl, rfl, rfl, by decide +kernel, rfl, by decide +kernel, by decide +kernel⟩
abbrev nLCountTo : List Str := ["many", "signs", "counts", "size", "at"]
abbrev pLCountTo : List Str := ["many", "signs"]
theorem scLCountTo : FnScope nLCountTo pLCountTo (defScope sLCountTo) := ⟨rfl, rfl, rfl, by decide +kernel, rfl, by decide +kernel, by decide +kernel⟩
abbrev nLKindRight : List Str := ["purse", "plains", "kind", "words", "due", "told", "late", "sent", "kept", "plain", "back", "word"]
abbrev pLKindRight : List Str := ["purse", "plains", "kind"]
theorem scLKindRight : FnScope nLKindRight pLKindRight (defScope sLKindRight) := ⟨rfl, rfl, rfl, by decide +kernel, rfl, by decide +kernel, by decide +kernel⟩
abbrev nLListsRight : List Str := ["purse", "plains", "number", "due", "told", "many"]
abbrev pLListsRight : List Str := ["purse"]
theorem scLListsRight : FnScope nLListsRight pLListsRight (defScope sLListsRight) := ⟨rfl, rfl, rfl, by decide +kernel, rfl, by decide +kernel, by decide +kernel⟩
abbrev nLaw : List Str := ["script", "purse", "plains", "spin", "signs", "kind"]
abbrev pLaw : List Str := ["script"]
theorem scLaw : FnScope nLaw pLaw (defScope sLaw) := ⟨rfl, rfl, rfl, by decide +kernel, rfl, by decide +kernel, by decide +kernel⟩
/-- a def of the top, as it stands behind it -/
structure Top (K : Frag) (mg : Str → Option Value) (x : Str) (st : Stmt) (ps : List Str) (f : Addr) (fd : FuncData) : Prop where
  F : Fun K x x st f fd
  g : mg x = some (.ref f)
  b : Binds K fd ps []
/-- the built-in names that are asked for -/
structure Blt (mg : Str → Option Value) : Prop where
  sum : mg "sum" = none
  int : mg "int" = none
  max : mg "max" = none
  min : mg "min" = none
  len : mg "len" = none
  range : mg "range" = none
  isi : mg "isinstance" = none
  list : mg "list" = none
  dict : mg "dict" = none
  tuple : mg "tuple" = none
  all : mg "all" = none
  str_ : mg "str" = none
  bool_ : mg "bool" = none
  sorted : mg "sorted" = none
  set : mg "set" = none
  reversed : mg "reversed" = none
  zip : mg "zip" = none
end K3

namespace K3
open PySem PySem.Spec PyProof.Rows L2
open PySem.W (Frag)
open TL (joinL tl tl_join)
section
variable {X : Cx}
/-- i ** j of great numbers -/
theorem op_powB : OpR X (binaryOp .Pow) (rI (fun i j => 0 ≤ j ∧ (Builtin.Int.intBits i : Int) * j ≤ 2 ^ 27) fun i j => .int (i ^ j.toNat)) :=
  opI fun i j t u s Q E c q => PyProof.Rows.pow_int c.1 c.2 q
end
section
variable {P : Program} {w : World} {K : Frag} {mg : Str → Option Value} {base : Heap}
/-! ### draws -/
/-- a purse at a, of which at most n draws were made -/
def PurseAt (H : Hp) (a : Addr) (n : Nat) : Prop := ∃ p0 p1 p2 p3 : Int, H a = some (.lst [.int p0, .int p1, .int p2, .int p3]) ∧ 0 ≤ p0 ∧ 0 ≤ p1 ∧ p1 < 2147483629 ∧ 0 ≤ p2 ∧ p2 ≤ n ∧ 0 ≤ p3 ∧ p3 ≤ 63
def spMixed : Sp := fun vs H Q _ => ∃ seed spin at_ : Int, vs = [.int seed, .int spin, .int at_] ∧ 0 ≤ seed ∧ seed < 2147483629 ∧ 0 ≤ spin ∧ spin ≤ 1099511627776 ∧ 0 ≤ at_ ∧ at_ ≤ 63 ∧ ∀ m : Int, 0 ≤ m → m < 2147483587 → Q (.int m) H
theorem ok_mixed {f : Addr} {fd : FuncData} (T : Top K mg "_law_mixed" sLMixed ["seed", "spin", "at"] f fd) (B : Blt mg) : FnOk P w K mg base CX0 1 f fd ["seed", "spin", "at"] spMixed := by
  refine T.F.ok scLMixed (fun vs H Q E h => ?_) (fun cdv A outer s H vs Q E hr h => ?_)
  · obtain ⟨_, _, _, rfl, _⟩ := h
    rfl
  · obtain ⟨seed, spin, at_, rfl, h0, h1, h2, h3, h4, h5, k⟩ := h
    refine ⟨_, (pss_cons (ps_set (i := 3) scLMixed.nd rfl (Or.inl rfl) (pe_op op_add (pe_op op_mul (pv 0) pe_int) (pe_op op_mul (pe_op op_mul pe_int (pv 1)) (pv 1))))
      (pss_cons (ps_set (i := 3) scLMixed.nd rfl (Or.inl rfl) (pe_op op_mod (pe_callTy call_int1 (by rfl) B.int (by decide +kernel) (pa_cons (pe_op op_add (pe_op op_add (pv 3) (pe_op op_mul pe_int (pv 2))) (pv 1)) pa_nil)) pe_int))
      (pss_cons (ps_set (i := 3) scLMixed.nd rfl (Or.inl rfl) (pe_op op_mod (pe_callTy call_int1 (by rfl) B.int (by decide +kernel) (pa_cons (pe_op op_add (pe_op op_mul (pv 3) (pv 3)) pe_int) pa_nil)) pe_int))
      (pss_one (ps_ret (pe_op op_mod (pe_callTy call_int1 (by rfl) B.int (by decide +kernel) (pa_cons (pe_op op_mul (pv 3) pe_int) pa_nil)) pe_int)))))), ?_⟩
    refine ⟨_, rfl, _, _, rfl, rfl, .inl ⟨by omega, by omega⟩, _, rfl, _, _, rfl, rfl, .inl ⟨by decide, by decide⟩, _, rfl, _, _, rfl, rfl, .inr ⟨by omega, by omega⟩, _, _, rfl, rfl, ?_⟩
    refine ⟨_, rfl, _, rfl, _, _, rfl, rfl, .inl ⟨by decide, by decide⟩, _, _, rfl, rfl, _, rfl, _, _, rfl, rfl, .inl ⟨_, rfl, _, _, rfl, rfl, (by show (0 : Int) < 2147483647; decide), ?_⟩⟩
    generalize e1 : (seed * 69069 + 104729 * spin * spin + 7919 * at_ + spin) % 2147483647 = m1
    have b1 : 0 ≤ m1 ∧ m1 < 2147483647 := by omega
    refine ⟨_, rfl, _, rfl, _, _, rfl, rfl, .inl ⟨by omega, by omega⟩, _, _, rfl, rfl, .inl ⟨_, rfl, _, _, rfl, rfl, (by show (0 : Int) < 2147483629; decide), ?_⟩⟩
    generalize e2 : (m1 * m1 + 40503) % 2147483629 = m2
    have b2 : 0 ≤ m2 ∧ m2 < 2147483629 := by omega
    refine ⟨_, rfl, _, _, rfl, rfl, .inl ⟨by omega, by omega⟩, .inl ⟨_, rfl, _, _, rfl, rfl, (by show (0 : Int) < 2147483587; decide), ?_⟩⟩
    exact k _ (by omega) (by omega)
def spDraw : Sp := fun vs H Q _ => ∃ (a : Addr) (n : Nat) (many : Int), vs = [.ref a, .int many] ∧ PurseAt H a n ∧ n ≤ 1000000000000 ∧ 1 ≤ many ∧ many < 1048576 ∧
  ∀ (d : Int) (H' : Hp), 0 ≤ d → d < many → (∀ b, b ≠ a → H' b = H b) → PurseAt H' a (n + 1) → Q (.int d) H'
theorem bits_small {m : Int} (h1 : 1 ≤ m) (h2 : m < 1048576) : (1 : Int) + ((Builtin.Int.intBits m : Nat) : Int) / 28 = 1 := by
  have b : Builtin.Int.intBits m ≤ 20 := by
    unfold Builtin.Int.intBits
    split
    · omega
    · have e : m.natAbs < 2 ^ 20 := by
        have : (2 : Nat) ^ 20 = 1048576 := by decide
        omega
      have := (Nat.log2_lt (by omega)).mpr e
      omega
  omega
theorem ok_draw {f fm : Addr} {fd fdm : FuncData} (T : Top K mg "_law_draw" sLDraw ["purse", "many"] f fd) (TM : Top K mg "_law_mixed" sLMixed ["seed", "spin", "at"] fm fdm) (B : Blt mg) :
    FnOk P w K mg base CX0 2 f fd ["purse", "many"] spDraw := by
  have GM : FnOk P w K mg base CX0 1 fm fdm ["seed", "spin", "at"] spMixed := ok_mixed TM B
  refine T.F.ok scLDraw (fun vs H Q E h => ?_) (fun cdv A outer s H vs Q E hr h => ?_)
  · obtain ⟨_, _, _, rfl, _⟩ := h
    rfl
  · obtain ⟨a, n, many, rfl, ⟨p0, p1, p2, p3, hp, h0, h1, h1', h2, h2', h3, h3'⟩, hn, hm1, hm2, k⟩ := h
    refine ⟨_, (pss_cons (ps_if (pt_cmpR op_gt (pe_ix ix_list (pv 0) pe_int (fun _ _ => rfl)) pe_int (nomark _))
        (pss_cons (ps_set (i := 2) scLDraw.nd rfl (Or.inl rfl) (pe_op op_mod (pe_callTy call_int1 (by rfl) B.int (by decide +kernel) (pa_cons (pe_ix ix_list (pv 0) pe_int (fun _ _ => rfl)) pa_nil)) (pv 1)))
      (pss_cons (ps_asg (pe_op op_fdiv (pe_ix ix_list (pv 0) pe_int (fun _ _ => rfl)) (pv 1)) (pg_sub (pv 0) pe_int set_list))
      (pss_one (ps_ret (pv 2))))) pss_nil)
      (pss_cons (ps_set (i := 3) scLDraw.nd rfl (Or.inl rfl) pe_int)
      (pss_cons (ps_for PassesOwn.never rfl (pi_range1 (by rfl) B.range (pa_cons (pe_op op_add pe_int (pe_op op_fdiv (pe_bits (pv 1)) pe_int)) pa_nil)) (pg_name (i := 4) scLDraw.nd rfl (Or.inl rfl))
        (pss_cons (ps_asg (pe_op op_add (pe_ix ix_list (pv 0) pe_int (fun _ _ => rfl)) pe_int) (pg_sub (pv 0) pe_int set_list))
      (pss_one (ps_set (i := 3) scLDraw.nd rfl (Or.inl rfl) (pe_op op_add (pe_op op_mul (pv 3) pe_int) (pe_call GM hr rfl TM.g TM.F.kp TM.b .nil pass0 (pa_cons (pe_ix ix_list (pv 0) pe_int (fun _ _ => rfl)) (pa_cons (pe_ix ix_list (pv 0) pe_int (fun _ _ => rfl)) (pa_cons (pe_ix ix_list (pv 0) pe_int (fun _ _ => rfl)) pa_nil)))))))))
      (pss_one (ps_ret (pe_op op_mod (pe_callTy call_int1 (by rfl) B.int (by decide +kernel) (pa_cons (pv 3) pa_nil)) (pv 1))))))), ?_⟩
    refine ⟨_, rfl, _, _, _, _, rfl, rfl, SqL.of hp, atI_nat (j := 0) rfl, _, _, rfl, rfl, _, rfl, ite2 (fun c => ?_) (fun c => ?_)⟩
    · have c' : 0 < p0 := of_decide_eq_true c
      refine ⟨_, rfl, _, _, _, _, rfl, rfl, SqL.of hp, atI_nat (j := 0) rfl, .inl ⟨_, rfl, _, rfl, _, _, rfl, rfl, (by show 0 < many; omega), ?_⟩⟩
      refine ⟨_, rfl, _, _, _, _, rfl, rfl, SqL.of hp, atI_nat (j := 0) rfl, _, rfl, _, _, rfl, rfl, ⟨by omega, by omega⟩, _, rfl, _, _, _, 0, rfl, rfl, hp, rfl, _, rfl, ?_⟩
      refine k _ _ (Int.emod_nonneg _ (by omega)) (Int.emod_lt_of_pos _ (by omega)) (fun b hb => upd_ne hb) ⟨p0 / many, p1, p2, p3, upd_same, Int.ediv_nonneg h0 (by omega), h1, h1', h2, by omega, h3, h3'⟩
    · refine ⟨_, rfl, _, rfl, _, _, rfl, rfl, ⟨by decide, by decide⟩, _, _, rfl, rfl, _, rfl, ?_, ?_, ?_⟩
      · rw [bits_small hm1 hm2]
        decide
      · rw [bits_small hm1 hm2]
        decide
      rw [bits_small hm1 hm2]
      refine for_range (lo := 0) (n := 1) (fun i σ H' => ∃ (v2 v4 : Option V) (z : Int), σ = [some (.ref a), some (.int many), v2, some (.int z), v4] ∧ (i = 0 → z = 0 ∧ H' = H) ∧ (i = 1 → (∀ b, b ≠ a → H' b = H b) ∧ PurseAt H' a (n + 1)))
        ⟨_, _, 0, rfl, fun _ => ⟨rfl, rfl⟩, fun e => by cases e⟩ ?_ ?_
      · rintro i σ H' hi ⟨v2, v4, z, rfl, hz, _⟩
        obtain rfl : i = 0 := by omega
        obtain ⟨rfl, rfl⟩ := hz rfl
        refine ⟨_, rfl, _, _, _, _, rfl, rfl, SqL.of hp, atI_nat (j := 2) rfl, _, _, rfl, rfl, _, rfl, _, _, _, 2, rfl, rfl, hp, rfl, ?_⟩
        refine ⟨_, rfl, _, _, rfl, rfl, .inl ⟨by decide, by decide⟩, _, rfl, _, _, _, _, rfl, rfl, SqL.of upd_same, atI_nat (j := 1) rfl, _, rfl, _, _, _, _, rfl, rfl, SqL.of upd_same, atI_nat (j := 2) rfl, _, rfl, _, _, _, _, rfl, rfl, SqL.of upd_same, atI_nat (j := 3) rfl, ?_⟩
        refine ⟨_, _, _, rfl, h1, h1', by omega, by omega, h3, h3', fun m m0 m1 => ⟨_, _, rfl, rfl, ?_⟩⟩
        exact ⟨_, _, _, rfl, (fun e => by cases e), fun _ => ⟨fun b hb => upd_ne hb, p0, p1, p2 + 1, p3, upd_same, h0, h1, h1', by omega, by omega, h3, h3'⟩⟩
      · rintro σ H' ⟨v2, v4, z, rfl, _, hz⟩
        obtain ⟨z1, z2⟩ := hz rfl
        exact ⟨_, rfl, .inl ⟨_, rfl, _, rfl, _, _, rfl, rfl, (by show 0 < many; omega), k _ _ (Int.emod_nonneg _ (by omega)) (Int.emod_lt_of_pos _ (by omega)) z1 z2⟩⟩
/-! ### purses -/
theorem cut_ints (ns : List Int) (lo hi : Option Int) : ∃ ms : List Int, cutV (ns.map V.int) lo hi = ms.map V.int := by
  unfold cutV
  exact ⟨_, by rw [List.map_take, List.map_drop]⟩
def spPurse (K : Frag) : Sp := fun vs H Q _ => ∃ (a : Addr) (ns : List Int) (i : Int), vs = [.ref a, .int i] ∧ SqL K H a (ns.map V.int) ∧ 0 ≤ i ∧ i ≤ 63 ∧ ∀ (p : Addr) (H' : Hp), Same H H' → H p = none → PurseAt H' p 0 → Q (.ref p) H'
theorem same_upd {H : Hp} {p : Addr} {o : HO} (h : H p = none) : Same H (upd H p o) := fun b u e => by
  rw [upd_ne (ne_of_none e h)]
  exact e
theorem ok_purse {f : Addr} {fd : FuncData} (T : Top K mg "_law_purse" sLPurse ["script", "at"] f fd) (B : Blt mg) : FnOk P w K mg base CX0 1 f fd ["script", "at"] (spPurse K) := by
  refine T.F.ok scLPurse (fun vs H Q E h => ?_) (fun cdv A outer s H vs Q E hr h => ?_)
  · obtain ⟨_, _, _, rfl, _⟩ := h
    rfl
  · obtain ⟨a, ns, i, rfl, hS, i0, i1, k⟩ := h
    refine ⟨_, (pss_cons (ps_set (i := 2) scLPurse.nd rfl (Or.inl rfl) (pe_callB (cr_sum rfl) (by rfl) B.sum (by decide +kernel) (pa_cons (pe_slice sl_list (pv 0) (po_some (pv 1)) (po_some (pe_op op_add (pv 1) pe_int))) pa_nil)))
      (pss_one (ps_ret (pe_lst (pa_cons (pe_op op_mod (pe_callTy call_int1 (by rfl) B.int (by decide +kernel) (pa_cons (pe_callB (call_max2 rfl) (by rfl) B.max (by decide +kernel) (pa_cons (pe_op op_sub (pv 2) (pe_op op_pow pe_int pe_int)) (pa_cons pe_int pa_nil))) pa_nil)) (pe_op op_powB (pe_op op_pow pe_int pe_int) pe_int)) (pa_cons (pe_op op_mod (pe_callTy call_int1 (by rfl) B.int (by decide +kernel) (pa_cons (pv 2) pa_nil)) pe_int) (pa_cons pe_int (pa_cons (pv 1) pa_nil)))))))), ?_⟩
    obtain ⟨ms, em⟩ := cut_ints ns (some i) (some (i + 1))
    refine ⟨_, rfl, _, rfl, i, rfl, _, rfl, _, _, rfl, rfl, i + 1, rfl, a, _, rfl, hS, fun q hq => ⟨q, ms, rfl, ?_, ?_⟩⟩
    · rw [em]
      exact SqL.of upd_same
    · refine ⟨_, rfl, _, _, rfl, rfl, ⟨by decide, by decide, by decide⟩, _, _, rfl, rfl, _, _, rfl, .inl ⟨_, rfl, _, _, rfl, rfl, ⟨by decide, by decide, by decide⟩, _, _, rfl, rfl, ⟨by decide, by decide +kernel⟩, _, _, rfl, rfl, (show (0 : Int) < (10 ^ (60 : Int).toNat) ^ (8 : Int).toNat by decide +kernel), ?_⟩⟩
      refine ⟨_, rfl, .inl ⟨_, rfl, _, _, rfl, rfl, (by show (0 : Int) < 2147483629; decide), _, rfl, (by show 4 ≤ sizeLine; decide), fun p hp => ?_⟩⟩
      have hp0 : H p = none := (same_upd hq).free hp
      refine k p _ ((same_upd hq).trans (same_upd hp)) hp0 ⟨_, _, 0, i, upd_same, Int.emod_nonneg _ (by decide +kernel), Int.emod_nonneg _ (by decide), Int.emod_lt_of_pos _ (by decide), Int.le_refl _, Int.le_refl _, i0, i1⟩
def spPurses (K : Frag) : Sp := fun vs H Q _ => ∃ (a : Addr) (ns : List Int), vs = [.ref a, .int 1] ∧ SqL K H a (ns.map V.int) ∧
  ∀ (L p : Addr) (H' : Hp), Same H H' → H L = none → H p = none → L ≠ p → H' L = some (.lst [.ref p]) → PurseAt H' p 0 → Q (.ref L) H'
theorem ok_purses {f fp : Addr} {fd fdp : FuncData} (T : Top K mg "_law_purses" sLPurses ["script", "few"] f fd) (TP : Top K mg "_law_purse" sLPurse ["script", "at"] fp fdp) (B : Blt mg) :
    FnOk P w K mg base CX0 2 f fd ["script", "few"] (spPurses K) := by
  have GP : FnOk P w K mg base CX0 1 fp fdp ["script", "at"] (spPurse K) := ok_purse TP B
  refine T.F.ok scLPurses (fun vs H Q E h => ?_) (fun cdv A outer s H vs Q E hr h => ?_)
  · obtain ⟨_, _, rfl, _⟩ := h
    rfl
  · obtain ⟨a, ns, rfl, hS, k⟩ := h
    refine ⟨_, pss_one (ps_ret (pe_lc (own := [("at", 2)]) (g := gName 2) (tt := tYes) rfl scLPurses.nd (pi_range1 (by rfl) B.range (pa_cons (pe_callB (call_max2 rfl) (by rfl) B.max (by decide +kernel) (pa_cons pe_int (pa_cons (pe_callB (call_min2 rfl) (by rfl) B.min (by decide +kernel) (pa_cons (pv 1) (pa_cons (pe_callB call_len_seq (by rfl) B.len PySem.boot_len (pa_cons (pv 0) pa_nil)) pa_nil))) pa_nil))) pa_nil))
      (blkOk_by (N := ["script", "few", "at"]) (sc := defScope sLPurses) (by decide +kernel)) (fun _ _ _ _ _ => pg_name (i := 2) scLPurses.nd rfl (Or.inl rfl)) (fun _ _ _ _ _ => pts_nil)
      (fun _ _ _ _ _ => (pe_call GP hr rfl TP.g TP.F.kp TP.b .nil pass0 (pa_cons (pv 0) (pa_cons (pv 2) pa_nil)))))), ?_⟩
    have e : ∀ m : Nat, (if (if (m : Int) < 1 then (m : Int) else 1) > 1 then (if (m : Int) < 1 then (m : Int) else 1) else 1) = (1 : Int) := by
      intro m
      split <;> split <;> omega
    refine ⟨_, rfl, _, rfl, a, _, rfl, .inl hS, _, _, rfl, _, _, rfl, _, rfl, ?_, ?_, ?_⟩
    · rw [e]
      decide
    · rw [e]
      decide
    rw [e]
    intro D hD
    refine lc_range (lo := 0) (n := 1) (fun i H' => (i = 0 → H' = upd H D (.lst [])) ∧ (i = 1 → ∃ p, Same H H' ∧ H p = none ∧ D ≠ p ∧ H' D = some (.lst [.ref p]) ∧ PurseAt H' p 0))
      ⟨fun _ => rfl, fun e => by cases e⟩ ?_ ?_
    · rintro i H' hi ⟨hz, _⟩
      obtain rfl : i = 0 := by omega
      obtain rfl := hz rfl
      refine ⟨rfl, _, rfl, _, rfl, a, ns, _, rfl, (same_upd hD).seq hS, by decide, by decide, fun p H2 s2 np h2 => ?_⟩
      have nDp : D ≠ p := ne_of_none upd_same np
      have eD : H2 D = some (.lst []) := s2 _ _ upd_same
      refine ⟨[], eD, by decide, fun e => (by cases e), fun _ => ⟨p, fun b o q => ?_, (same_upd hD).free np, nDp, upd_same, ?_⟩⟩
      · rw [upd_ne (ne_of_none q hD)]
        exact s2 _ _ (same_upd hD _ _ q)
      · obtain ⟨p0, p1, p2, p3, hp, r⟩ := h2
        exact ⟨p0, p1, p2, p3, by rw [upd_ne nDp.symm]; exact hp, r⟩
    · rintro H' ⟨_, hz⟩
      obtain ⟨p, s1, np, nDp, eD, hp⟩ := hz rfl
      exact k D p H' s1 hD np nDp eD hp
/-! ### what is drawn -/
def spOneOf : Sp := fun vs H Q _ => ∃ (a L : Addr) (n : Nat) (xs : List V), vs = [.ref a, .ref L] ∧ PurseAt H a n ∧ n ≤ 1000000000000 ∧ L ≠ a ∧ H L = some (.lst xs) ∧ 1 ≤ xs.length ∧ xs.length < 1048576 ∧
  ∀ (i : Nat) (x : V) (H' : Hp), xs[i]? = some x → (∀ b, b ≠ a → H' b = H b) → PurseAt H' a (n + 1) → Q x H'
theorem ok_oneOf {f fd_ fm : Addr} {fd fdd fdm : FuncData} (T : Top K mg "_law_one_of" sLOneOf ["purse", "some"] f fd) (TD : Top K mg "_law_draw" sLDraw ["purse", "many"] fd_ fdd)
    (TM : Top K mg "_law_mixed" sLMixed ["seed", "spin", "at"] fm fdm) (B : Blt mg) : FnOk P w K mg base CX0 3 f fd ["purse", "some"] spOneOf := by
  have GD : FnOk P w K mg base CX0 2 fd_ fdd ["purse", "many"] spDraw := ok_draw TD TM B
  refine T.F.ok scLOneOf (fun vs H Q E h => ?_) (fun cdv A outer s H vs Q E hr h => ?_)
  · obtain ⟨_, _, _, _, rfl, _⟩ := h
    rfl
  · obtain ⟨a, L, n, xs, rfl, hp, hn, nLa, hL, h1, h2, k⟩ := h
    refine ⟨_, pss_one (ps_ret (pe_ix ix_list (pv 1) (pe_call GD hr rfl TD.g TD.F.kp TD.b .nil pass0 (pa_cons (pv 0) (pa_cons (pe_callB call_len_seq (by rfl) B.len PySem.boot_len (pa_cons (pv 1) pa_nil)) pa_nil))) (fun _ _ => rfl))), ?_⟩
    refine ⟨_, rfl, _, rfl, _, rfl, L, _, rfl, .inl (SqL.of hL), a, n, _, rfl, hp, hn, by omega, by omega, fun d H' d0 d1 off hp' => ?_⟩
    obtain ⟨j, rfl⟩ := Int.eq_ofNat_of_zero_le d0
    have hj : j < xs.length := by omega
    refine ⟨L, xs, _, xs[j], rfl, rfl, SqL.of (by rw [off L nLa]; exact hL), atI_nat (by simp [hj]), ?_⟩
    exact k j _ H' (by simp [hj]) off hp'
/-- a word: one to eight letters -/
def IsW (z : Str) : Prop := 1 ≤ z.length ∧ z.length ≤ 8 ∧ ∀ c ∈ z.cps.toList, 97 ≤ c ∧ c ≤ 122
def abc : Str := "abcdefghijklmnopqrstuvwxyz"
theorem abc_at : ∀ j : Nat, j < 26 → abc.cps.toList[j]? = some (97 + j) := by decide +kernel
/-- the heap is kept but at a -/
def KeepBut (a : Addr) (H H' : Hp) : Prop := ∀ b o, H b = some o → b ≠ a → H' b = some o
theorem KeepBut.refl (a : Addr) (H : Hp) : KeepBut a H H := fun _ _ e _ => e
theorem KeepBut.trans {a : Addr} {H H1 H2 : Hp} (h : KeepBut a H H1) (h' : KeepBut a H1 H2) : KeepBut a H H2 := fun b o e n => h' b o (h b o e n) n
theorem KeepBut.of_same {a : Addr} {H H' : Hp} (h : Same H H') : KeepBut a H H' := fun b o e _ => h b o e
theorem KeepBut.of_off {a : Addr} {H H' : Hp} (h : ∀ b, b ≠ a → H' b = H b) : KeepBut a H H' := fun b o e n => by rw [h b n]; exact e
theorem KeepBut.free {a b : Addr} {H H' : Hp} (h : KeepBut a H H') (n : H' b = none) (hb : b ≠ a) : H b = none := by
  cases e : H b with
  | none => rfl
  | some o =>
    rw [h b o e hb] at n
    cases n
def spWord : Sp := fun vs H Q _ => ∃ (a : Addr) (n : Nat), vs = [.ref a] ∧ PurseAt H a n ∧ n ≤ 900000000000 ∧ ∀ (z : Str) (H' : Hp), IsW z → KeepBut a H H' → PurseAt H' a (n + 10) → Q (.str z) H'
theorem join_signs : ∀ cs : List Nat, joinL [] (cs.map fun c => [c]) = cs
  | [] => rfl
  | [c] => rfl
  | c :: d :: r => by
    show [c] ++ ([] ++ joinL [] ((d :: r).map fun c => [c])) = c :: d :: r
    rw [join_signs (d :: r)]
    rfl
theorem word_of (cs : List Nat) : (Txt.join ("" : Str) (cs.map fun c => (⟨#[c]⟩ : Str))).cps.toList = cs := by
  rw [TL.join_eq]
  show tl (Str.join "" (cs.map fun c => (⟨#[c]⟩ : Str))) = cs
  rw [tl_join, List.map_map]
  exact join_signs cs
theorem isW_of {cs : List Nat} (h1 : 1 ≤ cs.length) (h2 : cs.length ≤ 8) (h : ∀ c ∈ cs, 97 ≤ c ∧ c ≤ 122) : IsW (Txt.join ("" : Str) (cs.map fun c => (⟨#[c]⟩ : Str))) := by
  have e := word_of cs
  have l : (Txt.join ("" : Str) (cs.map fun c => (⟨#[c]⟩ : Str))).length = cs.length := by
    rw [← congrArg List.length e]
    exact Array.length_toList.symm
  exact ⟨by omega, by omega, by rw [e]; exact h⟩
theorem sum_ones : ∀ cs : List Nat, ((cs.map fun c => (⟨#[c]⟩ : Str)).map (·.length)).sum = cs.length
  | [] => rfl
  | c :: r => by
    show 1 + ((r.map fun c => (⟨#[c]⟩ : Str)).map (·.length)).sum = r.length + 1
    rw [sum_ones r]
    omega
theorem ok_word {f fd_ fm : Addr} {fd fdd fdm : FuncData} (T : Top K mg "_law_word" sLWord ["purse"] f fd) (TD : Top K mg "_law_draw" sLDraw ["purse", "many"] fd_ fdd)
    (TM : Top K mg "_law_mixed" sLMixed ["seed", "spin", "at"] fm fdm) (B : Blt mg) : FnOk P w K mg base CX0 3 f fd ["purse"] spWord := by
  have GD : FnOk P w K mg base CX0 2 fd_ fdd ["purse", "many"] spDraw := ok_draw TD TM B
  refine T.F.ok scLWord (fun vs H Q E h => ?_) (fun cdv A outer s H vs Q E hr h => ?_)
  · obtain ⟨_, _, rfl, _⟩ := h
    rfl
  · obtain ⟨a, n, rfl, hp, hn, k⟩ := h
    refine ⟨_, (pss_cons (ps_set (i := 1) scLWord.nd rfl (Or.inl rfl) (pe_op op_add pe_int (pe_call GD hr rfl TD.g TD.F.kp TD.b .nil pass0 (pa_cons (pv 0) (pa_cons (pe_ifExp (pt_cmpR op_eq (pe_call GD hr rfl TD.g TD.F.kp TD.b .nil pass0 (pa_cons (pv 0) (pa_cons pe_int pa_nil))) pe_int (nomark _)) pe_int pe_int) pa_nil)))))
      (pss_one (ps_ret (pe_join pe_str (pe_lc (own := [("spin", 2)]) (g := gName 2) (tt := tYes) rfl scLWord.nd (pi_range1 (by rfl) B.range (pa_cons (pv 1) pa_nil))
        (blkOk_by (N := ["purse", "size", "spin"]) (sc := defScope sLWord) (by decide +kernel)) (fun _ _ _ _ _ => pg_name (i := 2) scLWord.nd rfl (Or.inl rfl)) (fun _ _ _ _ _ => pts_nil)
        (fun _ _ _ _ _ => pe_ix ix_str pe_str (pe_call GD hr rfl TD.g TD.F.kp TD.b .nil pass0 (pa_cons (pv 0) (pa_cons pe_int pa_nil))) (fun _ _ => rfl))))))), ?_⟩
    refine ⟨_, rfl, _, rfl, a, n, _, rfl, hp, by omega, by decide, by decide, fun d1 H1 c0 c1 off1 hp1 => ⟨rfl, _, rfl, ?_⟩⟩
    refine ite2 (fun _ => ?_) (fun _ => ?_)
    all_goals
      refine ⟨a, n + 1, _, rfl, hp1, by omega, by decide, by decide, fun d2 H2 e0 e1 off2 hp2 => ?_⟩
      have e8 : d2 < 8 := by omega
      have kb : KeepBut a H H2 := (KeepBut.of_off off1).trans (.of_off off2)
      refine ⟨_, _, rfl, rfl, ⟨_, rfl⟩, _, rfl, _, rfl, by omega, by omega, fun D hD => ?_⟩
      have nDa : D ≠ a := by
        obtain ⟨_, _, _, _, e, _⟩ := hp2
        exact (ne_of_none e hD).symm
      refine lc_range (lo := 0) (n := (1 + d2).toNat) (fun i H' => KeepBut a H H' ∧ PurseAt H' a (n + 2 + i) ∧ ∃ cs : List Nat, H' D = some (.lst (cs.map fun c => V.str ⟨#[c]⟩)) ∧ cs.length = i ∧ ∀ c ∈ cs, 97 ≤ c ∧ c ≤ 122)
        ⟨fun b o q hb => ?_, ?_, [], upd_same, rfl, fun c hc => nomatch hc⟩ ?_ ?_
      · rw [upd_ne (ne_of_none (kb b o q hb) hD)]
        exact kb b o q hb
      · obtain ⟨p0, p1, p2, p3, q, r⟩ := hp2
        exact ⟨p0, p1, p2, p3, by rw [upd_ne nDa.symm]; exact q, r⟩
      · rintro i H' hi ⟨kb', hp', cs, eD, el, hc⟩
        have hi8 : i < 8 := by omega
        refine ⟨rfl, _, rfl, a, n + 2 + i, 26, rfl, hp', by omega, by decide, by decide, fun d3 H3 g0 g1 off3 hp3 => ?_⟩
        obtain ⟨j, rfl⟩ := Int.eq_ofNat_of_zero_le g0
        have hj : j < 26 := by omega
        refine ⟨abc, _, _, rfl, rfl, by decide, atI_nat (abc_at j hj), _, (by rw [off3 D nDa]; exact eD), ?_, ?_, ?_, cs ++ [97 + j], ?_, ?_, ?_⟩
        · rw [List.length_map, sizeLine_eq]
          omega
        · intro b o q hb
          have q1 : H3 b = some o := by
            rw [off3 b hb]
            exact kb' b o q hb
          rw [upd_ne ?_]
          · exact q1
          · rintro rfl
            have q2 := kb b o q hb
            rw [hD] at q2
            cases q2
        · obtain ⟨p0, p1, p2, p3, q, r⟩ := hp3
          exact ⟨p0, p1, p2, p3, by rw [upd_ne nDa.symm]; exact q, r⟩
        · rw [upd_same, List.map_append]
          rfl
        · rw [List.length_append, el]
          rfl
        · intro c hc'
          rcases List.mem_append.mp hc' with q | q
          · exact hc c q
          · have q' := List.mem_singleton.mp q
            omega
      · rintro H' ⟨kb', hp', cs, eD, el, hc⟩
        have hl : cs.length = (1 + d2).toNat := el
        refine ⟨_, D, cs.map fun c => (⟨#[c]⟩ : Str), rfl, rfl, .inl (SqL.of (by rw [eD, List.map_map]; rfl)), ?_, ?_⟩
        · rw [sum_ones, List.length_map]
          show cs.length + cs.length * 0 ≤ 16777216
          omega
        · refine k _ H' (isW_of (by omega) (by omega) hc) kb' ?_
          obtain ⟨p0, p1, p2, p3, q, r1, r2, r3, r4, r5, r6⟩ := hp'
          exact ⟨p0, p1, p2, p3, q, r1, r2, r3, r4, by omega, r6⟩
end
end K3

namespace K3
open PySem PySem.Spec PyProof.Rows L2
open PySem.W (Frag)
/-! ### types as data -/
inductive Sg | ov | th | un
  deriving DecidableEq
def Sg.str : Sg → Str
  | .ov => "over"
  | .th => "then"
  | .un => "under"
inductive Ty | w (z : Str) | n (g : Sg) (a b : Ty)
  deriving DecidableEq
inductive TyAt (H : Hp) : V → Ty → Prop
  | w {z : Str} : IsW z → TyAt H (.str z) (.w z)
  | n {p : Addr} {g : Sg} {x y : V} {a b : Ty} : H p = some (.tup [.str g.str, x, y]) → TyAt H x a → TyAt H y b → TyAt H (.ref p) (.n g a b)
/-- what is laid as a tuple stays -/
def TK (H H' : Hp) : Prop := ∀ p xs, H p = some (.tup xs) → H' p = some (.tup xs)
theorem TK.refl (H : Hp) : TK H H := fun _ _ e => e
theorem TK.trans {H H1 H2 : Hp} (h : TK H H1) (h' : TK H1 H2) : TK H H2 := fun p xs e => h' p xs (h p xs e)
theorem TK.of_same {H H' : Hp} (h : Same H H') : TK H H' := fun p xs e => h p _ e
theorem TK.upd_new {H : Hp} {a : Addr} {o : HO} (h : H a = none) : TK H (upd H a o) := TK.of_same (same_upd h)
theorem TK.upd_lst {H : Hp} {a : Addr} {xs ys : List V} (h : H a = some (.lst xs)) : TK H (upd H a (.lst ys)) := fun p zs e => by
  by_cases c : p = a
  · rw [c, h] at e
    cases e
  · rw [upd_ne c]
    exact e
theorem TyAt.mono {H H' : Hp} (k : TK H H') {v : V} {t : Ty} (h : TyAt H v t) : TyAt H' v t := by
  induction h with
  | w h => exact .w h
  | n e _ _ i1 i2 => exact .n (k _ _ e) i1 i2
def Ty.signs : Ty → Nat
  | .w _ => 0
  | .n _ a b => 1 + a.signs + b.signs
def Ty.size : Ty → Nat
  | .w _ => 1
  | .n _ a b => 1 + a.size + b.size
theorem Ty.size_signs (t : Ty) : t.size = 2 * t.signs + 1 := by
  induction t with
  | w _ => rfl
  | n g a b i j => simp only [Ty.size, Ty.signs]; omega
/-- the written names of the modules -/
structure Gbl (K : Frag) (mg : Str → Option Value) : Prop where
  letters : ∃ t, mg "_LETTERS" = some (.str abc t)
  signs : ∃ a, mg "_SIGNS" = some (.ref a) ∧ SqT K (fun _ => none) a [.str "over", .str "then", .str "under"]
theorem sqT_any {K : Frag} {a : Addr} {xs : List V} {H : Hp} (h : SqT K (fun _ => none) a xs) : SqT K H a xs := by
  rcases h with h | h
  · rcases h with h | ⟨o, h⟩
    · cases h
    · cases h
  · exact .inr h
section
variable {P : Program} {w : World} {K : Frag} {mg : Str → Option Value} {base : Heap}
/-! ### words -/
def spIsWord : Sp := fun vs H Q _ => ∃ z, vs = [.str z] ∧ IsW z ∧ ∀ H', Same H H' → Q (.bl true) H'
theorem abc_mem {c : Nat} (h1 : 97 ≤ c) (h2 : c ≤ 122) : c ∈ abc.cps.toList := by
  obtain ⟨j, rfl⟩ : ∃ j, c = 97 + j := ⟨c - 97, by omega⟩
  exact List.mem_of_getElem? (abc_at j (by omega))
theorem ok_isWord {f : Addr} {fd : FuncData} (T : Top K mg "is_word" sIsWord pIsWord f fd) (B : Blt mg) (G : Gbl K mg) : FnOk P w K mg base CX0 1 f fd pIsWord spIsWord := by
  obtain ⟨tl, gl⟩ := G.letters
  refine T.F.ok scIsWord (fun vs H Q E h => ?_) (fun cdv A outer s H vs Q E hr h => ?_)
  · obtain ⟨_, rfl, _⟩ := h
    rfl
  · obtain ⟨z, rfl, ⟨z1, z2, z3⟩, k⟩ := h
    refine ⟨_, (pss_cons (ps_if (PW.pt (pw_or (pt_not (pt_val (pe_callB call_isi (by rfl) B.isi (by decide +kernel) (pa_cons (pv 0) (pa_cons (pe_bltn (v := .ty "str") (by rfl) B.str_ (by decide +kernel) rfl) pa_nil))))) (pw_or1 (pt_not (pt_chain op_le op_le pe_int (pe_callB call_len_str (by rfl) B.len PySem.boot_len (pa_cons (pv 0) pa_nil)) pe_int))))) (pss_one (ps_ret pe_bl)) pss_nil)
      (pss_one (ps_ret (pe_callB (cr_all rfl) (by rfl) B.all (by decide +kernel) (pa_cons (pe_lc (own := [("letter", 1)]) (g := gName 1) (tt := tYes) rfl scIsWord.nd (pi_str (pv 0)) (blkOk_by (N := nIsWord) (sc := defScope sIsWord) (by decide +kernel)) (fun _ _ _ _ _ => pg_name (i := 1) scIsWord.nd rfl (Or.inl rfl)) (fun _ _ _ _ _ => pts_nil) (fun _ _ _ _ _ => (pe_cmpR op_in_sign (pv 1) (pe_glob (v := .str abc) rfl gl ⟨tl, rfl⟩) (by rfl)))) pa_nil))))), ?_⟩
    refine ⟨_, rfl, _, _, _, _, true, rfl, .ty "str", .base (.str z), kit_ty (by decide +kernel), true, rfl, iteF ?_⟩
    refine ⟨_, rfl, _, rfl, by rw [sizeLine_eq]; omega, _, _, rfl, rfl, true, congrArg V.bl (decide_eq_true (by omega)), iteT ⟨_, _, rfl, rfl, true, congrArg V.bl (decide_eq_true (by omega)), iteF ?_⟩⟩
    refine ⟨_, rfl, _, rfl, fun D hD => ?_⟩
    refine lc_it walk_str (fun i H' => H' = upd H D (.lst (List.replicate i (.bl true)))) rfl (fun _ _ _ _ => trivial) ?_ ?_
    · rintro i x H' H2 hi rfl ⟨rfl, c, hc, rfl⟩
      have hm : c ∈ z.cps.toList := Array.mem_toList_iff.mpr (Array.mem_of_getElem? hc)
      refine ⟨rfl, _, rfl, c, abc, rfl, rfl, _, upd_same, ?_, ?_⟩
      · rw [List.length_replicate, sizeLine_eq]
        have : z.cps.size ≤ 8 := z2
        omega
      · rw [upd_upd, decide_eq_true (abc_mem (z3 c hm).1 (z3 c hm).2), ← List.replicate_succ']
    · rintro H' rfl
      refine ⟨_, List.replicate z.cps.size true, rfl, SqL.of (by rw [upd_same, List.map_replicate]), ?_⟩
      have e : (List.replicate z.cps.size true).all id = true := by
        rw [List.all_eq_true]
        intro b hb
        exact (List.mem_replicate.mp hb).2
      rw [e]
      exact k _ (same_upd hD)
/-! ### signs -/
def Ty.node : Ty → Bool
  | .w _ => false
  | .n _ _ _ => true
def spIsSigned : Sp := fun vs H Q _ => ∃ v t, vs = [v] ∧ TyAt H v t ∧ Q (.bl t.node) H
theorem ok_isSigned {f : Addr} {fd : FuncData} (T : Top K mg "_is_signed" sIsSigned pIsSigned f fd) (B : Blt mg) (G : Gbl K mg) : FnOk P w K mg base CX0 1 f fd pIsSigned spIsSigned := by
  obtain ⟨sa, gs, hs⟩ := G.signs
  refine T.F.ok scIsSigned (fun vs H Q E h => ?_) (fun cdv A outer s H vs Q E hr h => ?_)
  · obtain ⟨_, _, rfl, _⟩ := h
    rfl
  · obtain ⟨v, t, rfl, ht, k⟩ := h
    refine ⟨_, pss_one (ps_ret (pe_and (pe_callB call_isi (by rfl) B.isi (by decide +kernel) (pa_cons (pv 0) (pa_cons (pe_bltn (v := .ty "tuple") (by rfl) B.tuple (by decide +kernel) rfl) pa_nil))) (pe_and (pe_cmpR op_eq (pe_callB call_len_seq (by rfl) B.len PySem.boot_len (pa_cons (pv 0) pa_nil)) pe_int (nomark _)) (pe_one (pe_cmpR op_in_seq (pe_ix ix_tup (pv 0) pe_int (fun _ _ => rfl)) (pe_glob (v := .ref sa) rfl gs rfl) (by rfl)))))), ?_⟩
    cases ht with
    | @w z h => exact ⟨_, rfl, _, _, _, _, false, rfl, .ty "tuple", .base (.str z), kit_ty (by decide +kernel), false, rfl, k⟩
    | @n p g x y a b e h1 h2 =>
      refine ⟨_, rfl, _, _, _, _, true, rfl, .ty "tuple", .base (.tup e), kit_ty (by decide +kernel), true, rfl, ?_⟩
      refine ⟨_, rfl, p, _, rfl, .inr (SqT.of e), rfl, true, rfl, ?_⟩
      refine ⟨_, rfl, p, _, _, _, rfl, rfl, SqT.of e, atI_nat (j := 0) rfl, sa, _, rfl, .inr (sqT_any hs), rfl, rfl, ?_⟩
      cases g <;> exact k
end
end K3

namespace K3
open PySem PySem.Spec PyProof.Rows L2
open PySem.W (Frag)
/-- a list of types -/
inductive Tys (H : Hp) : List V → List Ty → Prop
  | nil : Tys H [] []
  | cons {v : V} {t : Ty} {vs : List V} {ts : List Ty} : TyAt H v t → Tys H vs ts → Tys H (v :: vs) (t :: ts)
theorem Tys.mono {H H' : Hp} (k : TK H H') {vs : List V} {ts : List Ty} (h : Tys H vs ts) : Tys H' vs ts := by
  induction h with
  | nil => exact .nil
  | cons h _ ih => exact .cons (h.mono k) ih
theorem Tys.length {H : Hp} {vs : List V} {ts : List Ty} (h : Tys H vs ts) : vs.length = ts.length := by
  induction h with
  | nil => rfl
  | cons _ _ ih => simp [ih]
theorem Tys.append {H : Hp} {vs us : List V} {ts rs : List Ty} (h : Tys H vs ts) (h' : Tys H us rs) : Tys H (vs ++ us) (ts ++ rs) := by
  induction h with
  | nil => exact h'
  | cons h _ ih => exact .cons h ih
theorem Tys.at_ {H : Hp} {vs : List V} {ts : List Ty} (h : Tys H vs ts) : ∀ {i : Nat} {v : V}, vs[i]? = some v → ∃ t, ts[i]? = some t ∧ TyAt H v t := by
  induction h with
  | nil => intro i v e; simp at e
  | cons h _ ih =>
    intro i v e
    cases i with
    | zero =>
      simp at e
      subst e
      exact ⟨_, rfl, h⟩
    | succ i => exact ih (by simpa using e)
def sizes : List Ty → Nat
  | [] => 0
  | t :: r => t.size + sizes r
theorem Ty.size_pos (t : Ty) : 1 ≤ t.size := by
  cases t <;> simp [Ty.size]; omega
theorem sizes_len : ∀ ts : List Ty, ts.length ≤ sizes ts
  | [] => Nat.le_refl _
  | t :: r => by
    have := sizes_len r
    have := t.size_pos
    simp only [List.length_cons, sizes]
    omega
theorem same_over {H0 H : Hp} {W : Addr} {o : HO} (s : Same H0 H) (n : H0 W = none) : Same H0 (upd H W o) := fun b u e => by
  rw [upd_ne (ne_of_none e n)]
  exact s b u e
/-- the parts of a type, as nodes go through them -/
def Ty.parts : Ty → List Ty
  | .w _ => []
  | .n _ a b => [a, b]
theorem cut_not : ¬ (HT.sIx 3 0 (some 1) = 0 ∧ HT.sIx 3 3 none = 3) := by decide +kernel
section
variable {P : Program} {w : World} {K : Frag} {mg : Str → Option Value} {base : Heap}
def spIsKind : Sp := fun vs H Q _ => ∃ v t, vs = [v] ∧ TyAt H v t ∧ t.size ≤ 1000000 ∧ ∀ H', Same H H' → Q (.bl true) H'
theorem ok_isKind {f fs fw : Addr} {fd fds fdw : FuncData} (T : Top K mg "is_kind" sIsKind pIsKind f fd) (TS : Top K mg "_is_signed" sIsSigned pIsSigned fs fds) (TW : Top K mg "is_word" sIsWord pIsWord fw fdw) (B : Blt mg) (G : Gbl K mg) :
    FnOk P w K mg base CX0 2 f fd pIsKind spIsKind := by
  have GS : FnOk P w K mg base CX0 1 fs fds pIsSigned spIsSigned := ok_isSigned TS B G
  have GW : FnOk P w K mg base CX0 1 fw fdw pIsWord spIsWord := ok_isWord TW B G
  refine T.F.ok scIsKind (fun vs H Q E h => ?_) (fun cdv A outer s H vs Q E hr h => ?_)
  · obtain ⟨_, _, rfl, _⟩ := h
    rfl
  · obtain ⟨v, t, rfl, ht, hz, k⟩ := h
    refine ⟨_, (pss_cons (ps_set (i := 1) scIsKind.nd rfl (Or.inl rfl) (pe_lst (pa_cons (pv 0) pa_nil)))
      (pss_cons (ps_while PassesOwn.never (pt_truth (pv 1) (by intro _; rfl))
        (pss_cons (ps_set (i := 2) scIsKind.nd rfl (Or.inl rfl) (pe_bm0 PySem.F.plainAttrs_list PySem.F.slot_list_pop PySem.F.type_list_pop mt_pop (pv 1)))
      (pss_one (ps_if (pt_val (pe_call GS hr rfl TS.g TS.F.kp TS.b .nil pass0 (pa_cons (pv 2) pa_nil))) (pss_one (ps_expr (pe_bm PySem.F.plainAttrs_list PySem.F.slot_list_extend PySem.F.type_list_extend KT.mt_extT (pv 1) (pa_cons (pe_slice sl_tup (pv 2) (po_some pe_int) po_none) pa_nil))))
            (pss_one (ps_if (pt_not (pt_val (pe_call GW hr rfl TW.g TW.F.kp TW.b .nil pass0 (pa_cons (pv 2) pa_nil)))) (pss_one (ps_ret pe_bl)) pss_nil))))))
      (pss_one (ps_ret pe_bl)))), ?_⟩
    refine ⟨v, rfl, by show 1 ≤ sizeLine; rw [sizeLine_eq]; omega, fun W hW => ?_⟩
    refine ⟨fun m σ H' => ∃ (vs : List V) (ts : List Ty) (v2 : Option V), σ = [some v, some (.ref W), v2] ∧ H' W = some (.lst vs.reverse) ∧ Tys H' vs ts ∧ sizes ts = m ∧ m ≤ 1000000 ∧ Same H H', ⟨t.size, [v], [t], none, rfl, upd_same, .cons (ht.mono (TK.upd_new hW)) .nil, rfl, hz, same_upd hW⟩, ?_⟩
    rintro m σ H1 ⟨vs, ts, v2, rfl, hL, hT, rfl, hm, hs⟩
    refine ⟨_, rfl, _, .inl ⟨_, SqL.of hL, rfl⟩, ?_⟩
    cases hT with
    | nil => exact iteF (k H1 hs)
    | @cons y u vs ts h1 h2 =>
      have el : (y :: vs).reverse = vs.reverse ++ [y] := List.reverse_cons
      have c : (!(y :: vs).reverse.isEmpty) = true := by rw [el]; simp
      rw [c]
      refine iteT ⟨fun σ' H' => ∃ m' < sizes (u :: ts), ∃ (vs : List V) (ts : List Ty) (v2 : Option V), σ' = [some v, some (.ref W), v2] ∧ H' W = some (.lst vs.reverse) ∧ Tys H' vs ts ∧ sizes ts = m' ∧ m' ≤ 1000000 ∧ Same H H', fun σ' H' q => q, ?_⟩
      refine ⟨_, rfl, .inl ⟨rfl, _, SqL.of hL⟩, W, _, y, rfl, rfl, hL, by rw [el]; simp, ?_⟩
      have ed : (y :: vs).reverse.dropLast = vs.reverse := by rw [el]; simp
      rw [ed]
      have tk : TK H1 (upd H1 W (.lst vs.reverse)) := TK.upd_lst hL
      have hs' : Same H (upd H1 W (.lst vs.reverse)) := same_over hs hW
      refine ⟨y, rfl, y, u, rfl, h1.mono tk, _, rfl, ?_⟩
      cases h1 with
      | @w z hz =>
        refine iteF ⟨_, rfl, z, rfl, hz, fun H2 s2 => ⟨_, rfl, iteF ⟨sizes ts, ?_, vs, ts, _, rfl, s2 _ _ upd_same, h2.mono (tk.trans (TK.of_same s2)), rfl, ?_, hs'.trans s2⟩⟩⟩
        · show sizes ts < 1 + sizes ts
          omega
        · have : 1 + sizes ts ≤ 1000000 := hm
          omega
      | @n p g x1 x2 a b e k1 k2 =>
        refine iteT ⟨_, rfl, .inl ⟨rfl, _, SqL.of upd_same⟩, _, rfl, _, rfl, p, _, rfl, SqT.of (tk _ _ e), cut_not, fun p' hp => ?_⟩
        have np : W ≠ p' := ne_of_none upd_same hp
        refine ⟨W, p', _, _, rfl, rfl, by rw [upd_ne np, upd_same], SqT.of upd_same, ?_, ?_⟩
        · have l1 := h2.length
          have l2 := sizes_len ts
          show vs.reverse.length + 2 ≤ sizeLine
          rw [List.length_reverse, sizeLine_eq]
          have : (1 + a.size + b.size) + sizes ts ≤ 1000000 := hm
          omega
        · have hp1 : H1 p' = none := by
            rw [upd_ne np.symm] at hp
            exact hp
          have tk2 : TK H1 (upd (upd (upd H1 W (.lst vs.reverse)) p' (.tup [x1, x2])) W (.lst (vs.reverse ++ [x1, x2]))) := (tk.trans (TK.upd_new hp)).trans (TK.upd_lst (by rw [upd_ne np, upd_same]))
          have tk3 : TK H1 (upd (upd H1 W (.lst vs.reverse)) p' (.tup [x1, x2])) := tk.trans (TK.upd_new hp)
          refine ⟨b.size + (a.size + sizes ts), ?_, x2 :: x1 :: vs, b :: a :: ts, _, rfl, ?_, .cons (k2.mono tk2) (.cons (k1.mono tk2) (h2.mono tk2)), rfl, ?_, ?_⟩
          · show _ < (1 + a.size + b.size) + sizes ts
            omega
          · rw [upd_same]
            simp
            rfl
          · have : (1 + a.size + b.size) + sizes ts ≤ 1000000 := hm
            omega
          · exact same_over (hs'.trans (same_upd hp)) hW
end
end K3

namespace K3
open PySem PySem.Spec PyProof.Rows L2
open PySem.W (Frag)
/-- all in a type, each ahead of its parts, a later part ahead of an earlier one -/
def Ty.nodes : Ty → List Ty
  | .w z => [.w z]
  | .n g a b => .n g a b :: (b.nodes ++ a.nodes)
def nodesAll : List Ty → List Ty
  | [] => []
  | t :: r => t.nodes ++ nodesAll r
theorem Ty.nodes_len (t : Ty) : t.nodes.length = t.size := by
  induction t with
  | w _ => rfl
  | n g a b i j => simp only [Ty.nodes, Ty.size, List.length_cons, List.length_append]; omega
theorem nodesAll_len : ∀ ts : List Ty, (nodesAll ts).length = sizes ts
  | [] => rfl
  | t :: r => by simp only [nodesAll, sizes, List.length_append, nodesAll_len r, Ty.nodes_len]
theorem Tys.snoc {H : Hp} {vs : List V} {ts : List Ty} {v : V} {t : Ty} (h : Tys H vs ts) (h' : TyAt H v t) : Tys H (vs ++ [v]) (ts ++ [t]) := h.append (.cons h' .nil)
section
variable {P : Program} {w : World} {K : Frag} {mg : Str → Option Value} {base : Heap}
/-! ### the parts of a node -/
def spPartsOf : Sp := fun vs H Q _ => ∃ v t, vs = [v] ∧ TyAt H v t ∧ ∀ p us, H p = none → Tys H us t.parts → Q (.ref p) (upd H p (.tup us))
theorem ok_partsOf {f : Addr} {fd : FuncData} (T : Top K mg "_parts_of" sPartsOf pPartsOf f fd) (B : Blt mg) : FnOk P w K mg base CX0 1 f fd pPartsOf spPartsOf := by
  refine T.F.ok scPartsOf (fun vs H Q E h => ?_) (fun cdv A outer s H vs Q E hr h => ?_)
  · obtain ⟨_, _, rfl, _⟩ := h
    rfl
  · obtain ⟨v, t, rfl, ht, k⟩ := h
    refine ⟨_, pss_one (ps_ret (pe_ifExp (pt_val (pe_callB call_isi (by rfl) B.isi (by decide +kernel) (pa_cons (pv 0) (pa_cons (pe_bltn (v := .ty "tuple") (by rfl) B.tuple (by decide +kernel) rfl) pa_nil)))) (pe_slice sl_tup (pv 0) (po_some pe_int) po_none) (pe_tup pa_nil))), ?_⟩
    cases ht with
    | @w z h => exact ⟨_, rfl, _, _, _, _, false, rfl, .ty "tuple", .base (.str z), kit_ty (by decide +kernel), false, rfl, iteF ⟨Nat.zero_le _, fun p hp => k p [] hp .nil⟩⟩
    | @n p g x y a b e h1 h2 =>
      exact ⟨_, rfl, _, _, _, _, true, rfl, .ty "tuple", .base (.tup e), kit_ty (by decide +kernel), true, rfl, iteT ⟨_, rfl, _, rfl, p, _, rfl, SqT.of e, cut_not, fun q hq => k q [x, y] hq (.cons h1 (.cons h2 .nil))⟩⟩
/-! ### the nodes -/
def spNodesIn (fp : Addr) : Sp := fun vs H Q _ => ∃ v t, vs = [v, .ref fp] ∧ TyAt H v t ∧ t.size ≤ 1000000 ∧
  ∀ (L : Addr) (us : List V) (H' : Hp), Same H H' → H L = none → H' L = some (.lst us) → Tys H' us t.nodes → Q (.ref L) H'
theorem ok_nodesIn {f fp : Addr} {fd fdp : FuncData} (T : Top K mg "nodes_in" sNodesIn pNodesIn f fd) (TP : Top K mg "_parts_of" sPartsOf pPartsOf fp fdp) (B : Blt mg) : FnOk P w K mg base CX0 2 f fd pNodesIn (spNodesIn fp) := by
  have GP : FnOk P w K mg base CX0 1 fp fdp pPartsOf spPartsOf := ok_partsOf TP B
  refine T.F.ok scNodesIn (fun vs H Q E h => ?_) (fun cdv A outer s H vs Q E hr h => ?_)
  · obtain ⟨_, _, rfl, _⟩ := h
    rfl
  · obtain ⟨v, t, rfl, ht, hz, k⟩ := h
    refine ⟨_, (pss_cons (ps_set (i := 2) scNodesIn.nd rfl (Or.inl rfl) (pe_lst (pa_cons (pv 0) pa_nil)))
      (pss_cons (ps_set (i := 3) scNodesIn.nd rfl (Or.inl rfl) (pe_lst pa_nil))
      (pss_cons (ps_while PassesOwn.never (pt_truth (pv 2) (by intro _; rfl))
        (pss_cons (ps_set (i := 4) scNodesIn.nd rfl (Or.inl rfl) (pe_bm0 PySem.F.plainAttrs_list PySem.F.slot_list_pop PySem.F.type_list_pop mt_pop (pv 2)))
      (pss_cons (ps_expr (pe_bm PySem.F.plainAttrs_list PySem.F.slot_list_append PySem.F.type_list_append mt_append (pv 3) (pa_cons (pv 4) pa_nil)))
      (pss_one (ps_expr (pe_bm PySem.F.plainAttrs_list PySem.F.slot_list_extend PySem.F.type_list_extend KT.mt_extT (pv 2) (pa_cons (pe_callL (i := 1) (f := fp) GP hr rfl (.inl rfl) TP.F.kp TP.b .nil pass0 (pa_cons (pv 4) pa_nil)) pa_nil)))))))
      (pss_one (ps_ret (pv 3)))))), ?_⟩
    refine ⟨v, rfl, by show 1 ≤ sizeLine; rw [sizeLine_eq]; omega, fun W hW => ⟨by show 0 ≤ sizeLine; exact Nat.zero_le _, fun L hL => ?_⟩⟩
    have nWL : W ≠ L := ne_of_none upd_same hL
    have nL : H L = none := by
      rw [upd_ne nWL.symm] at hL
      exact hL
    have sh : Same H (upd (upd H W (.lst [v])) L (.lst [])) := same_over (same_over (Same.refl H) hW) nL
    refine ⟨fun m σ H' => ∃ (vs : List V) (ts : List Ty) (us : List V) (rs : List Ty) (v4 : Option V), σ = [some v, some (.ref fp), some (.ref W), some (.ref L), v4] ∧ H' W = some (.lst vs.reverse) ∧ H' L = some (.lst us) ∧ Tys H' vs ts ∧ Tys H' us rs ∧ rs ++ nodesAll ts = t.nodes ∧ sizes ts = m ∧ Same H H',
      ⟨t.size, [v], [t], [], [], none, rfl, by rw [upd_ne nWL, upd_same]; rfl, upd_same, .cons (ht.mono (TK.of_same sh)) .nil, .nil, by simp [nodesAll], rfl, sh⟩, ?_⟩
    rintro m σ H1 ⟨vs, ts, us, rs, v4, rfl, eW, eL, hT, hR, hn, rfl, hs⟩
    have hlen := congrArg List.length hn
    rw [List.length_append, nodesAll_len, Ty.nodes_len] at hlen
    have lr := hR.length
    refine ⟨_, rfl, _, .inl ⟨_, SqL.of eW, rfl⟩, ?_⟩
    cases hT with
    | nil =>
      refine iteF ⟨_, rfl, k L us H1 hs nL eL ?_⟩
      rw [← hn]
      simpa [nodesAll] using hR
    | @cons y u vs ts h1 h2 =>
      have el : (y :: vs).reverse = vs.reverse ++ [y] := List.reverse_cons
      have c : (!(y :: vs).reverse.isEmpty) = true := by rw [el]; simp
      rw [c]
      refine iteT ⟨fun σ' H' => ∃ m' < sizes (u :: ts), ∃ (vs : List V) (ts : List Ty) (us : List V) (rs : List Ty) (v4 : Option V), σ' = [some v, some (.ref fp), some (.ref W), some (.ref L), v4] ∧ H' W = some (.lst vs.reverse) ∧ H' L = some (.lst us) ∧ Tys H' vs ts ∧ Tys H' us rs ∧ rs ++ nodesAll ts = t.nodes ∧ sizes ts = m' ∧ Same H H', fun σ' H' q => q, ?_⟩
      refine ⟨_, rfl, .inl ⟨rfl, _, SqL.of eW⟩, W, _, y, rfl, rfl, eW, by rw [el]; simp, ?_⟩
      have ed : (y :: vs).reverse.dropLast = vs.reverse := by rw [el]; simp
      rw [ed]
      have hl2 : (sizes (u :: ts)) = u.size + sizes ts := rfl
      have tk : TK H1 (upd H1 W (.lst vs.reverse)) := TK.upd_lst eW
      have eL2 : upd H1 W (.lst vs.reverse) L = some (.lst us) := by rw [upd_ne nWL.symm]; exact eL
      refine ⟨_, rfl, .inl ⟨rfl, _, SqL.of eL2⟩, y, rfl, L, us, y, rfl, rfl, eL2, by rw [sizeLine_eq]; omega, ?_⟩
      have tk2 : TK H1 (upd (upd H1 W (.lst vs.reverse)) L (.lst (us ++ [y]))) := tk.trans (TK.upd_lst eL2)
      have eW2 : upd (upd H1 W (.lst vs.reverse)) L (.lst (us ++ [y])) W = some (.lst vs.reverse) := by rw [upd_ne nWL, upd_same]
      have hs2 : Same H (upd (upd H1 W (.lst vs.reverse)) L (.lst (us ++ [y]))) := same_over (same_over hs hW) nL
      refine ⟨_, rfl, .inl ⟨rfl, _, SqL.of eW2⟩, rfl, y, rfl, y, u, rfl, h1.mono tk2, fun p zs hp hzs => ?_⟩
      have np : W ≠ p := ne_of_none eW2 hp
      have npL : L ≠ p := ne_of_none upd_same hp
      have lz := hzs.length
      have l2 := h2.length
      have l3 := sizes_len ts
      have up := u.size_pos
      refine ⟨W, p, _, zs, rfl, rfl, by rw [upd_ne np]; exact eW2, SqT.of upd_same, ?_, ?_⟩
      · rw [List.length_reverse, sizeLine_eq, lz]
        have : u.parts.length ≤ 2 := by cases u <;> simp [Ty.parts]
        omega
      · have tk3 := tk2.trans ((TK.upd_new (o := .tup zs) hp).trans (TK.upd_lst (ys := vs.reverse ++ zs) (by rw [upd_ne np]; exact eW2)))
        have tz := (TK.upd_new (o := .tup zs) hp).trans (TK.upd_lst (ys := vs.reverse ++ zs) (by rw [upd_ne np]; exact eW2))
        have hs3 := same_over (o := .lst (vs.reverse ++ zs)) (hs2.trans (same_upd (o := .tup zs) hp)) hW
        have eL4 : upd (upd (upd (upd H1 W (.lst vs.reverse)) L (.lst (us ++ [y]))) p (.tup zs)) W (.lst (vs.reverse ++ zs)) L = some (.lst (us ++ [y])) := by rw [upd_ne nWL.symm, upd_ne npL, upd_same]
        refine ⟨sizes u.parts + sizes ts, ?_, zs.reverse ++ vs, u.parts.reverse ++ ts, us ++ [y], rs ++ [u], _, rfl, ?_, eL4, ?_, (hR.mono tk3).snoc (h1.mono tk3), ?_, ?_, hs3⟩
        · cases u <;> simp [Ty.parts, sizes, Ty.size] <;> omega
        · rw [upd_same]
          simp
        · cases u with
          | w z =>
            cases hzs
            exact h2.mono tk3
          | n g a b =>
            cases hzs with
            | cons q1 hzs =>
              cases hzs with
              | cons q2 hzs =>
                cases hzs
                exact .cons (q2.mono tz) (.cons (q1.mono tz) (h2.mono tk3))
        · rw [← hn]
          cases u <;> simp [Ty.parts, nodesAll, Ty.nodes]
        · cases u <;> simp [Ty.parts, sizes] <;> omega
end
end K3

namespace K3
open PySem PySem.Spec PyProof.Rows L2
open PySem.W (Frag)
def Ty.okf : Ty → Bool
  | .w _ => true
  | .n g _ _ => decide (g ≠ .th)
def Ty.free : Ty → Bool
  | .w _ => true
  | .n g a b => decide (g ≠ .th) && a.free && b.free
theorem Ty.free_nodes (t : Ty) : t.nodes.all Ty.okf = t.free := by
  induction t with
  | w _ => rfl
  | n g a b i j =>
    simp only [Ty.nodes, List.all_cons, List.all_append, i, j, Ty.okf, Ty.free]
    cases decide (g ≠ .th) <;> cases a.free <;> cases b.free <;> rfl
theorem Ty.signs_nodes (t : Ty) : (t.nodes.filter Ty.node).length = t.signs := by
  induction t with
  | w _ => rfl
  | n g a b i j =>
    simp only [Ty.nodes, List.filter_append, List.length_append, Ty.signs]
    rw [List.filter_cons_of_pos (by rfl), List.length_cons, List.filter_append, List.length_append]
    omega
theorem filter_snoc {α : Type} (p : α → Bool) (l : List α) (i : Nat) (x : α) (h : l[i]? = some x) : (l.take (i + 1)).filter p = if p x then (l.take i).filter p ++ [x] else (l.take i).filter p := by
  rw [List.take_add_one, h, List.filter_append]
  by_cases c : p x <;> simp [c]
theorem map_snoc {α β : Type} (f : α → β) (l : List α) (i : Nat) (x : α) (h : l[i]? = some x) : (l.take (i + 1)).map f = (l.take i).map f ++ [f x] := by
  rw [List.take_add_one, h, List.map_append]
  rfl
section
variable {P : Program} {w : World} {K : Frag} {mg : Str → Option Value} {base : Heap}
def spCheckKind : Sp := fun vs H Q _ => ∃ v t, vs = [v] ∧ TyAt H v t ∧ t.size ≤ 1000000 ∧ ∀ H', Same H H' → Q .non H'
/-- what is_kind stands upon -/
structure TIs (K : Frag) (mg : Str → Option Value) (fi fs fw : Addr) (fdi fds fdw : FuncData) : Prop where
  TI : Top K mg "is_kind" sIsKind pIsKind fi fdi
  TS : Top K mg "_is_signed" sIsSigned pIsSigned fs fds
  TW : Top K mg "is_word" sIsWord pIsWord fw fdw
  B : Blt mg
  G : Gbl K mg
theorem ok_checkKind {f fi fs fw : Addr} {fd fdi fds fdw : FuncData} (T : Top K mg "check_kind" sCheckKind pCheckKind f fd) (I : TIs K mg fi fs fw fdi fds fdw) : FnOk P w K mg base CX0 3 f fd pCheckKind spCheckKind := by
  have GI : FnOk P w K mg base CX0 2 fi fdi pIsKind spIsKind := ok_isKind I.TI I.TS I.TW I.B I.G
  refine T.F.ok scCheckKind (fun vs H Q E h => ?_) (fun cdv A outer s H vs Q E hr h => ?_)
  · obtain ⟨_, _, rfl, _⟩ := h
    rfl
  · obtain ⟨v, t, rfl, ht, hz, k⟩ := h
    have TI := I.TI
    refine ⟨_, pss_one (ps_if (pt_not (pt_val (pe_call GI hr rfl TI.g TI.F.kp TI.b .nil pass0 (pa_cons (pv 0) pa_nil)))) pss_never pss_nil), ?_⟩
    exact ⟨v, rfl, v, t, rfl, ht, hz, fun H' s' => ⟨_, rfl, iteF (k H' s')⟩⟩
def spKindsIn : Sp := fun vs H Q _ => ∃ v t, vs = [v] ∧ TyAt H v t ∧ t.size ≤ 1000000 ∧
  ∀ (L : Addr) (us : List V) (H' : Hp), Same H H' → H L = none → H' L = some (.lst us) → Tys H' us t.nodes → Q (.ref L) H'
theorem ok_kindsIn {f fn fp : Addr} {fd fdn fdp : FuncData} (T : Top K mg "kinds_in" sKindsIn pKindsIn f fd) (TN : Top K mg "nodes_in" sNodesIn pNodesIn fn fdn) (TP : Top K mg "_parts_of" sPartsOf pPartsOf fp fdp) (B : Blt mg) :
    FnOk P w K mg base CX0 3 f fd pKindsIn spKindsIn := by
  have GN : FnOk P w K mg base CX0 2 fn fdn pNodesIn (spNodesIn fp) := ok_nodesIn TN TP B
  refine T.F.ok scKindsIn (fun vs H Q E h => ?_) (fun cdv A outer s H vs Q E hr h => ?_)
  · obtain ⟨_, _, rfl, _⟩ := h
    rfl
  · obtain ⟨v, t, rfl, ht, hz, k⟩ := h
    refine ⟨_, pss_one (ps_ret (pe_call GN hr rfl TN.g TN.F.kp TN.b .nil pass0 (pa_cons (pv 0) (pa_cons (pe_glob (v := .ref fp) rfl TP.g rfl) pa_nil)))), ?_⟩
    exact ⟨v, rfl, v, t, rfl, ht, hz, k⟩
/-- what kinds_in stands upon -/
structure TKs (K : Frag) (mg : Str → Option Value) (fk fn fp fc : Addr) (fdk fdn fdp fdc : FuncData) : Prop where
  TK : Top K mg "kinds_in" sKindsIn pKindsIn fk fdk
  TN : Top K mg "nodes_in" sNodesIn pNodesIn fn fdn
  TP : Top K mg "_parts_of" sPartsOf pPartsOf fp fdp
  TC : Top K mg "check_kind" sCheckKind pCheckKind fc fdc
def spSignsOf : Sp := fun vs H Q _ => ∃ v t, vs = [v] ∧ TyAt H v t ∧ t.size ≤ 1000000 ∧ ∀ H', Same H H' → Q (.int t.signs) H'
theorem ok_signsOf {f fk fn fp fc fi fs fw : Addr} {fd fdk fdn fdp fdc fdi fds fdw : FuncData} (T : Top K mg "signs_of" sSignsOf pSignsOf f fd) (U : TKs K mg fk fn fp fc fdk fdn fdp fdc) (I : TIs K mg fi fs fw fdi fds fdw) :
    FnOk P w K mg base CX0 4 f fd pSignsOf spSignsOf := by
  have GK : FnOk P w K mg base CX0 3 fk fdk pKindsIn spKindsIn := ok_kindsIn U.TK U.TN U.TP I.B
  have GC : FnOk P w K mg base CX0 3 fc fdc pCheckKind spCheckKind := ok_checkKind U.TC I
  have B := I.B
  have TC := U.TC
  have TK_ := U.TK
  refine T.F.ok scSignsOf (fun vs H Q E h => ?_) (fun cdv A outer s H vs Q E hr h => ?_)
  · obtain ⟨_, _, rfl, _⟩ := h
    rfl
  · obtain ⟨v, t, rfl, ht, hz, k⟩ := h
    refine ⟨_, (pss_cons (ps_expr (pe_call GC hr rfl TC.g TC.F.kp TC.b .nil pass0 (pa_cons (pv 0) pa_nil)))
      (pss_one (ps_ret (pe_callB call_len_seq (by rfl) B.len PySem.boot_len (pa_cons (pe_lc (own := [("part", 1)]) (g := gName 1) rfl scSignsOf.nd (pi_list (pe_call GK hr rfl TK_.g TK_.F.kp TK_.b .nil pass0 (pa_cons (pv 0) pa_nil))) (blkOk_by (N := nSignsOf) (sc := defScope sSignsOf) (by decide +kernel)) (fun _ _ _ _ _ => pg_name (i := 1) scSignsOf.nd rfl (Or.inl rfl)) (fun _ _ _ _ _ => pts_one (pt_val (pe_callB (show CallR _ (.builtin "isinstance") (rIsi K) from call_isi) (by rfl) B.isi (by decide +kernel) (pa_cons (pv 1) (pa_cons (pe_bltn (v := .ty "tuple") (by rfl) B.tuple (by decide +kernel) rfl) pa_nil))))) (fun _ _ _ _ _ => (pv 1))) pa_nil))))), ?_⟩
    refine ⟨v, rfl, v, t, rfl, ht, hz, fun H1 s1 => ?_⟩
    refine ⟨v, rfl, v, t, rfl, ht.mono (TK.of_same s1), hz, fun L us H2 s2 nL eL hT => ?_⟩
    have lu := hT.length
    rw [Ty.nodes_len] at lu
    refine ⟨L, rfl, ⟨us, SqL.of eL⟩, fun D hD => ?_⟩
    have nLD : L ≠ D := ne_of_none eL hD
    refine lc_list (K := K) (xs := us) (fun i H' => ∃ zs, H' = upd H2 D (.lst zs) ∧ zs.length = ((t.nodes.take i).filter Ty.node).length) ⟨[], rfl, rfl⟩ ?_ ?_ ?_
    · rintro i H' hi ⟨zs, rfl, _⟩
      exact SqL.of (by rw [upd_ne nLD]; exact eL)
    · rintro i x H' hx ⟨zs, rfl, hl⟩
      obtain ⟨u, hu, hxu⟩ := hT.at_ hx
      have hx' := hxu.mono (TK.upd_new (o := .lst zs) hD)
      have li : zs.length ≤ 1000000 := by
        rw [hl]
        have q1 := List.length_filter_le Ty.node (t.nodes.take i)
        have q2 : (t.nodes.take i).length ≤ t.nodes.length := by rw [List.length_take]; omega
        rw [Ty.nodes_len] at q2
        omega
      refine ⟨rfl, x, rfl, x, .ty "tuple", ?_⟩
      cases hx' with
      | @w z h => exact ⟨_, _, false, rfl, .ty "tuple", .base (.str z), kit_ty (by decide +kernel), false, rfl, iteF ⟨zs, rfl, by rw [filter_snoc _ _ _ _ hu, hl]; rfl⟩⟩
      | @n p g x y a b e h1 h2 =>
        refine ⟨_, _, true, rfl, .ty "tuple", .base (.tup e), kit_ty (by decide +kernel), true, rfl, iteT ⟨_, rfl, zs, upd_same, by rw [sizeLine_eq]; omega, zs ++ [.ref p], upd_upd, ?_⟩⟩
        rw [filter_snoc _ _ _ _ hu, List.length_append, hl]
        show _ = (((t.nodes.take i).filter Ty.node) ++ [_]).length
        rw [List.length_append]
        rfl
    · rintro H' ⟨zs, rfl, hl⟩
      refine ⟨D, _, rfl, .inl (SqL.of upd_same), ?_⟩
      have e : us.length = t.nodes.length := by rw [Ty.nodes_len]; exact lu
      rw [e, List.take_length, Ty.signs_nodes] at hl
      rw [hl]
      exact k _ (s1.trans (s2.trans (same_upd hD)))
def spIsFree : Sp := fun vs H Q _ => ∃ v t, vs = [v] ∧ TyAt H v t ∧ t.size ≤ 1000000 ∧ ∀ H', Same H H' → Q (.bl t.free) H'
theorem ok_isFree {f fk fn fp fc fi fs fw : Addr} {fd fdk fdn fdp fdc fdi fds fdw : FuncData} (T : Top K mg "is_free" sIsFree pIsFree f fd) (U : TKs K mg fk fn fp fc fdk fdn fdp fdc) (I : TIs K mg fi fs fw fdi fds fdw) :
    FnOk P w K mg base CX0 4 f fd pIsFree spIsFree := by
  have GK : FnOk P w K mg base CX0 3 fk fdk pKindsIn spKindsIn := ok_kindsIn U.TK U.TN U.TP I.B
  have GC : FnOk P w K mg base CX0 3 fc fdc pCheckKind spCheckKind := ok_checkKind U.TC I
  have B := I.B
  have TC := U.TC
  have TK_ := U.TK
  refine T.F.ok scIsFree (fun vs H Q E h => ?_) (fun cdv A outer s H vs Q E hr h => ?_)
  · obtain ⟨_, _, rfl, _⟩ := h
    rfl
  · obtain ⟨v, t, rfl, ht, hz, k⟩ := h
    refine ⟨_, (pss_cons (ps_expr (pe_call GC hr rfl TC.g TC.F.kp TC.b .nil pass0 (pa_cons (pv 0) pa_nil)))
      (pss_one (ps_ret (pe_callB (cr_all rfl) (by rfl) B.all (by decide +kernel) (pa_cons (pe_lc (own := [("part", 1)]) (g := gName 1) (tt := tYes) rfl scIsFree.nd (pi_list (pe_call GK hr rfl TK_.g TK_.F.kp TK_.b .nil pass0 (pa_cons (pv 0) pa_nil))) (blkOk_by (N := nIsFree) (sc := defScope sIsFree) (by decide +kernel)) (fun _ _ _ _ _ => pg_name (i := 1) scIsFree.nd rfl (Or.inl rfl)) (fun _ _ _ _ _ => pts_nil) (fun _ _ _ _ _ => (pe_or (pe_callB (show CallR _ (.builtin "isinstance") (rIsi K) from call_isi) (by rfl) B.isi (by decide +kernel) (pa_cons (pv 1) (pa_cons (pe_bltn (v := .ty "str") (by rfl) B.str_ (by decide +kernel) rfl) pa_nil))) (pe_one (pe_cmpR op_ne (pe_ix (show IxR _ (rIxT K) from ix_tup) (pv 1) pe_int (fun _ _ => rfl)) pe_str (nomark _)))))) pa_nil))))), ?_⟩
    refine ⟨v, rfl, v, t, rfl, ht, hz, fun H1 s1 => ?_⟩
    refine ⟨v, rfl, v, t, rfl, ht.mono (TK.of_same s1), hz, fun L us H2 s2 nL eL hT => ?_⟩
    have lu := hT.length
    rw [Ty.nodes_len] at lu
    refine ⟨L, rfl, ⟨us, SqL.of eL⟩, fun D hD => ?_⟩
    have nLD : L ≠ D := ne_of_none eL hD
    refine lc_list (K := K) (xs := us) (fun i H' => H' = upd H2 D (.lst (((t.nodes.take i).map Ty.okf).map V.bl))) rfl ?_ ?_ ?_
    · rintro i H' hi rfl
      exact SqL.of (by rw [upd_ne nLD]; exact eL)
    · rintro i x H' hx rfl
      obtain ⟨u, hu, hxu⟩ := hT.at_ hx
      have hx' := hxu.mono (TK.upd_new (o := .lst (((t.nodes.take i).map Ty.okf).map V.bl)) hD)
      have li : (((t.nodes.take i).map Ty.okf).map V.bl).length < sizeLine := by
        rw [List.length_map, List.length_map, List.length_take, Ty.nodes_len, sizeLine_eq]
        omega
      have fin : upd (upd H2 D (.lst (((t.nodes.take i).map Ty.okf).map V.bl))) D (.lst (((t.nodes.take i).map Ty.okf).map V.bl ++ [.bl u.okf])) = upd H2 D (.lst (((t.nodes.take (i + 1)).map Ty.okf).map V.bl)) := by
        rw [upd_upd, map_snoc Ty.okf _ _ _ hu, List.map_append]
        rfl
      refine ⟨rfl, x, rfl, x, .ty "str", ?_⟩
      cases hx' with
      | @w z h => exact ⟨_, _, true, rfl, .ty "str", .base (.str z), kit_ty (by decide +kernel), true, rfl, _, upd_same, li, fin⟩
      | @n p g x y a b e h1 h2 =>
        refine ⟨_, _, false, rfl, .ty "str", .base (.tup e), kit_ty (by decide +kernel), false, rfl, ?_⟩
        refine ⟨_, rfl, p, _, _, _, rfl, rfl, SqT.of e, atI_nat (j := 0) rfl, ?_⟩
        cases g <;> exact ⟨rfl, _, upd_same, li, fin⟩
    · rintro H' rfl
      refine ⟨D, _, rfl, SqL.of upd_same, ?_⟩
      have e : us.length = t.nodes.length := by rw [Ty.nodes_len]; exact lu
      have e2 : ((t.nodes.take us.length).map Ty.okf).all id = t.free := by
        rw [e, List.take_length, ← Ty.free_nodes, List.all_map]
        rfl
      rw [e2]
      exact k _ (s1.trans (s2.trans (same_upd hD)))
end
end K3

namespace K3
open PySem PySem.Spec PyProof.Rows L2 NdefX LamX KT
open PySem.W (Frag)
/-- S: the types whose results stand; R: the nodes that are still to be looked at -/
inductive Run : List Ty → List Ty → List Ty → Prop
  | nil {S : List Ty} : Run S [] S
  | cons {S R S' : List Ty} {u : Ty} : Run (S ++ [u]) R S' → Run (S ++ u.parts) (u :: R) S'
theorem run_nodes (t : Ty) : ∀ (S R S' : List Ty), Run (S ++ [t]) R S' → Run S (t.nodes.reverse ++ R) S' := by
  induction t with
  | w z =>
    intro S R S' h
    have q := Run.cons h
    simpa [Ty.parts, Ty.nodes] using q
  | n g a b i j =>
    intro S R S' h
    have q := Run.cons h
    have e : (Ty.n g a b).nodes.reverse ++ R = a.nodes.reverse ++ (b.nodes.reverse ++ (Ty.n g a b :: R)) := by simp [Ty.nodes]
    rw [e]
    refine i _ _ _ (j _ _ _ ?_)
    have e2 : S ++ [a] ++ [b] = S ++ (Ty.n g a b).parts := by simp [Ty.parts]
    rw [e2]
    exact q
theorem Run.inv {S R S' : List Ty} {u : Ty} (h : Run S (u :: R) S') : ∃ S0, S = S0 ++ u.parts ∧ Run (S0 ++ [u]) R S' := by
  cases h with
  | cons h => exact ⟨_, rfl, h⟩
theorem Run.end_ {S S' : List Ty} (h : Run S [] S') : S = S' := by
  cases h
  rfl
theorem Tys.split {H : Hp} {ts rs : List Ty} : ∀ {us : List V}, Tys H us (ts ++ rs) → Tys H (us.take ts.length) ts ∧ Tys H (us.drop ts.length) rs := by
  induction ts with
  | nil => intro us h; exact ⟨.nil, h⟩
  | cons t ts ih =>
    intro us h
    cases h with
    | cons h1 h2 =>
      obtain ⟨a, b⟩ := ih h2
      exact ⟨.cons h1 a, b⟩
theorem sIx_nat {n b : Nat} (h : b ≤ n) : HT.sIx n 0 (some (b : Int)) = b := by
  rw [HT.sIx_nat]
  omega
theorem cutV_drop {xs : List V} {b : Nat} (h : b ≤ xs.length) : cutV xs (some (b : Int)) none = xs.drop b := by
  unfold cutV
  rw [sIx_nat h]
  have e : HT.sIx xs.length xs.length none = xs.length := rfl
  rw [e]
  exact List.take_of_length_le (by simp)
section
variable {P : Program} {w : World} {K : Frag} {mg : Str → Option Value} {base : Heap}
/-- of a node and the list of what came of its parts -/
def OkW (W : Str → Prop) (u : Ty) : Prop := ∀ z, u = .w z → W z
def spNode (W : Str → Prop) (H0 : Hp) (fo : Ty → Ty) : Sp := fun vs H Q _ => ∃ x u L us, vs = [x, .ref L] ∧ ExtN H0 H ∧ OkW W u ∧ TyAt H x u ∧ H L = some (.lst us) ∧ Tys H us (u.parts.map fo) ∧ ∀ v' H', Same H H' → TyAt H' v' (fo u) → Q v' H'
def spFI (P : Program) (w : World) (K : Frag) (mg : Str → Option Value) (base : Heap) (fp : Addr) (D : Pins) : Sp := fun vs H Q _ => ∃ v t f3 fo EX W H0, vs = [v, .ref fp, .ref f3] ∧ ExtN H0 H ∧ (∀ u ∈ t.nodes, OkW W u) ∧ TyAt H v t ∧ t.size ≤ 1000000 ∧
  Callee P w K mg base 2 f3 (spNode W H0 fo) D EX ∧ ExOk EX H ∧ ∀ v' H', Same H H' → TyAt H' v' (fo t) → Q v' H'
/-- a def of the top whose code object is at c -/
structure TopC (K : Frag) (mg : Str → Option Value) (x : Str) (st : Stmt) (ps : List Str) (f : Addr) (fd : FuncData) (c : Addr) : Prop where
  T : Top K mg x st ps f fd
  ex : ∃ (oc : Value) (od : Option Addr) (kV doc pm : Value) (an : Option Addr) (ct : Value) (osl : Array (Option Value)),
    fd = PySem.W.fnOf x x (defArgs st) (defBody st) (defScope st) .none kV doc pm an (.ref c) ct ∧ K.lookup f = some ⟨oc, od, .func fd, osl⟩ ∧ PySem.W.codeIn K (.ref c) x = true
theorem TopC.fnd {x : Str} {st : Stmt} {ps N : List Str} {f c : Addr} {fd : FuncData} {k : Nat} {sp : Pins → Sp} (T : TopC K mg x st ps f fd c) (S : FnScope N ps (defScope st)) (len : ∀ D vs H Q, sp D vs H Q L2.E0 → vs.length = ps.length)
    (body : ∀ (D : Pins) (B : Around) (outer : List Env) (s : Shared) (H : Hp) (vs : List V) (Q : VK), Room k (B.deeper (envOfC x (defScope st) s.heap.objs.size f (.ref c))) → Dep D outer s H → sp D vs H Q L2.E0 →
      ∃ t, PSs (cxOf L2.CX0 P w K mg base N x (defScope st) f (.ref c) B outer s H L2.E0).nox (defBody st) t ∧ t { nx := fun _ H' => Q .non H', rt := Q } (start N vs) H) : FnD P w K mg base (k + 1) f fd ps sp := by
  obtain ⟨oc, od, kV, doc, pm, an, ct, osl, rfl, lk, hcd⟩ := T.ex
  exact fnd_of lk hcd S len body
theorem ok_fromInside {f fn fp c : Addr} {fd fdn fdp : FuncData} (T : TopC K mg "from_inside" sFromInside pFromInside f fd c) (TN : Top K mg "nodes_in" sNodesIn pNodesIn fn fdn) (TP : Top K mg "_parts_of" sPartsOf pPartsOf fp fdp) (B : Blt mg) :
    FnD P w K mg base 3 f fd pFromInside (spFI P w K mg base fp) := by
  have GN : FnOk P w K mg base L2.CX0 2 fn fdn pNodesIn (spNodesIn fp) := ok_nodesIn TN TP B
  have GP : FnOk P w K mg base L2.CX0 1 fp fdp pPartsOf spPartsOf := ok_partsOf TP B
  refine T.fnd scFromInside (fun D vs H Q h => ?_) (fun D A outer s H vs Q hr dp h => ?_)
  · obtain ⟨_, _, _, _, _, _, _, rfl, _⟩ := h
    rfl
  · obtain ⟨v, t, f3, fo, EX, WW, H0, rfl, he0, hW0, ht, hz, C, hx, k⟩ := h
    have hr1 : Room 1 _ := hr.mono (by decide)
    refine ⟨_, (pss_cons (ps_set (i := 3) scFromInside.nd rfl (Or.inl rfl) (pe_lst pa_nil))
      (pss_cons (ps_for PassesOwn.never rfl (pi_reversed (by rfl) B.reversed (pa_cons (pe_call GN hr rfl TN.g TN.F.kp TN.b .nil pass0 (pa_cons (pv 0) (pa_cons (pv 1) pa_nil))) pa_nil)) (pg_name (i := 4) scFromInside.nd rfl (Or.inl rfl))
        (pss_cons (ps_set (i := 5) scFromInside.nd rfl (Or.inl rfl) (pe_op op_sub (pe_callB call_len_seq (by rfl) B.len PySem.boot_len (pa_cons (pv 3) pa_nil)) (pe_callB call_len_seq (by rfl) B.len PySem.boot_len (pa_cons (pe_callL (i := 1) (f := fp) GP hr1 rfl (.inl rfl) TP.F.kp TP.b .nil pass0 (pa_cons (pv 4) pa_nil)) pa_nil))))
      (pss_cons (ps_set (i := 6) scFromInside.nd rfl (Or.inl rfl) (pe_slice sl_list (pv 3) (po_some (pv 5)) po_none))
      (pss_cons (KT.ps_delTail (pv 3) (po_some (pv 5)))
      (pss_one (ps_expr (pe_bm PySem.F.plainAttrs_list PySem.F.slot_list_append PySem.F.type_list_append mt_append (pv 3) (pa_cons (pe_callee (i := 2) C hr rfl dp rfl (.inl rfl) (pa_cons (pv 4) (pa_cons (pv 6) pa_nil))) pa_nil))))))))
      (pss_one (ps_ret (pe_ix ix_list (pv 3) pe_int (fun _ _ => rfl)))))), ?_⟩
    refine ⟨by show 0 ≤ sizeLine; exact Nat.zero_le _, fun W hW => ?_⟩
    have sW : Same H (upd H W (.lst [])) := same_upd hW
    refine ⟨v, rfl, .ref fp, rfl, v, t, rfl, ht.mono (TK.of_same sW), hz, fun L ns H1 s1 nL eL hT => ?_⟩
    have nWL : W ≠ L := ne_of_none upd_same nL
    have nHL : H L = none := by
      rw [upd_ne nWL.symm] at nL
      exact nL
    have ln := hT.length
    rw [Ty.nodes_len] at ln
    refine ⟨L, ns, rfl, SqL.of eL, ?_⟩
    refine for_it walk_rev (fun i σ H' => ∃ (v4 v5 v6 : Option V) (us : List V) (S : List Ty), σ = [some v, some (.ref fp), some (.ref f3), some (.ref W), v4, v5, v6] ∧ H' W = some (.lst us) ∧ Same H H' ∧ H' L = some (.lst ns) ∧ Tys H' ns t.nodes ∧ Tys H' us (S.map fo) ∧ S.length ≤ i ∧ Run S (t.nodes.reverse.drop i) [t])
      ⟨none, none, none, [], [], rfl, s1 _ _ upd_same, sW.trans s1, eL, hT, .nil, Nat.le_refl _, by have q := run_nodes t [] [] [t] .nil; simpa using q⟩ ?_ ?_ ?_
    · rintro i σ H' hi ⟨_, _, _, _, _, _, _, _, e, _⟩
      exact SqL.of e
    · rintro i x σ H' H2 hi ⟨v4, v5, v6, us, S, rfl, eW, hs, eL', hN, hU, hSi, hR⟩ ⟨rfl, hx'⟩
      obtain ⟨u, hu, hxu⟩ := hN.at_ hx'
      have lN := hN.length
      have hd : t.nodes.reverse.drop i = u :: t.nodes.reverse.drop (i + 1) := by
        have q : t.nodes.reverse[i]? = some u := by
          rw [List.getElem?_reverse (by omega), ← lN]
          exact hu
        obtain ⟨h1, h2⟩ := List.getElem?_eq_some_iff.mp q
        rw [List.drop_eq_getElem_cons h1, h2]
      rw [hd] at hR
      obtain ⟨S0, rfl, hR'⟩ := hR.inv
      have lU := hU.length
      rw [List.map_append] at hU
      obtain ⟨hU1, hU2⟩ := hU.split
      rw [List.length_map] at hU1 hU2
      rw [List.length_map, List.length_append] at lU
      rw [List.length_append] at hSi
      refine ⟨_, rfl, W, us, rfl, .inl (SqL.of eW), rfl, x, rfl, x, u, rfl, hxu, fun p zs hp hzs => ⟨p, zs, rfl, .inr (SqT.of upd_same), _, _, rfl, rfl, ?_⟩⟩
      have lz := hzs.length
      have e5 : (us.length : Int) - (zs.length : Int) = (S0.length : Int) := by omega
      dsimp only
      rw [e5]
      have np : W ≠ p := ne_of_none eW hp
      have npL : L ≠ p := ne_of_none eL' hp
      have eW1 : upd H2 p (.tup zs) W = some (.lst us) := by rw [upd_ne np]; exact eW
      refine ⟨_, rfl, _, rfl, _, rfl, W, us, rfl, SqL.of eW1, fun q hq => ?_⟩
      rw [cutV_drop (by omega)]
      have nq : W ≠ q := ne_of_none eW1 hq
      have npq : L ≠ q := ne_of_none (show upd H2 p (.tup zs) L = some (.lst ns) by rw [upd_ne npL]; exact eL') hq
      have eW2 : upd (upd H2 p (.tup zs)) q (.lst (us.drop S0.length)) W = some (.lst us) := by rw [upd_ne nq]; exact eW1
      refine ⟨_, rfl, _, rfl, _, rfl, W, us, S0.length, rfl, rfl, eW2, by omega, ?_⟩
      have tk : TK H2 (upd (upd (upd H2 p (.tup zs)) q (.lst (us.drop S0.length))) W (.lst (us.take S0.length))) := ((TK.upd_new hp).trans (TK.upd_new hq)).trans (TK.upd_lst eW2)
      have s2 : Same H (upd (upd (upd H2 p (.tup zs)) q (.lst (us.drop S0.length))) W (.lst (us.take S0.length))) := same_over ((hs.trans (same_upd hp)).trans (same_upd hq)) hW
      have nqW : q ≠ W := nq.symm
      refine ⟨_, rfl, .inl ⟨rfl, _, SqL.of upd_same⟩, rfl, fun r hr => s2 _ _ (hx r hr), x, rfl, _, rfl, fun r hr => s2 _ _ (hx r hr), x, u, q, us.drop S0.length, rfl, he0.trans (fun b o e _ => s2 b o e), hW0 u (List.mem_of_getElem? hu), hxu.mono tk, by rw [upd_ne nqW, upd_same], hU2.mono tk, fun v' H6 s6 hv' => ?_⟩
      refine ⟨W, us.take S0.length, v', rfl, rfl, s6 _ _ upd_same, by rw [List.length_take, sizeLine_eq]; omega, ?_⟩
      have tk6 : TK H2 H6 := tk.trans (TK.of_same s6)
      have tk7 : TK H6 (upd H6 W (.lst (us.take S0.length ++ [v']))) := TK.upd_lst (s6 _ _ upd_same)
      refine ⟨_, _, _, us.take S0.length ++ [v'], S0 ++ [u], rfl, upd_same, same_over (s2.trans s6) hW, ?_, hN.mono (tk6.trans tk7), ?_, ?_, hR'⟩
      · rw [upd_ne nWL.symm]
        refine s6 _ _ ?_
        rw [upd_ne nWL.symm, upd_ne npq, upd_ne npL]
        exact eL'
      · rw [List.map_append]
        exact (hU1.mono (tk6.trans tk7)).append (.cons (hv'.mono tk7) .nil)
      · rw [List.length_append, List.length_singleton]
        omega
    · rintro σ H' ⟨v4, v5, v6, us, S, rfl, eW, hs, eL', hN, hU, hSi, hR⟩
      rw [List.drop_of_length_le (by rw [List.length_reverse, Ty.nodes_len]; omega)] at hR
      have e := hR.end_
      subst e
      cases hU with
      | cons h1 h2 =>
        cases h2
        exact ⟨_, rfl, W, _, _, _, rfl, rfl, SqL.of eW, atI_nat (j := 0) rfl, k _ H' hs h1⟩
end
end K3

namespace K3
open PySem PySem.Spec PyProof.Rows L2 NdefX LamX KT
open PySem.W (Frag)
def Ty.fold (f : Str → Ty) (g : Sg → Ty → Ty → Ty) : Ty → Ty
  | .w z => f z
  | .n s a b => g s (a.fold f g) (b.fold f g)
theorem ExtN.tk {H H' : Hp} (h : ExtN H H') : TK H H' := fun p xs e => h p _ e fun ps z => by cases z
theorem ExtN.of_same {H H' : Hp} (h : Same H H') : ExtN H H' := fun b o e _ => h b o e
/-- the tables of code objects of the three defs that make functions -/
abbrev T3 (PF PT PP : Addr) : List (Addr × Str) := [(PF, "folded.<locals>.at_part"), (PT, "turned.<locals>.<lambda>"), (PP, "put_in.<locals>.<lambda>")]
abbrev toN (T : List (Addr × Str)) : List NTab := T.map fun p => (p.1, fun _ _ => p.2)
theorem tabsN_of {T : List (Addr × Str)} {H : Hp} (h : Tabs T H) : TabsN (toN T) H := fun q hq => by
  obtain ⟨p, hp, rfl⟩ := List.mem_map.mp hq
  exact TabN.of (h p hp)
theorem tabs_of {T : List (Addr × Str)} {H : Hp} (h : TabsN (toN T) H) : Tabs T H := fun p hp => TabN.to (h (p.1, fun _ _ => p.2) (List.mem_map.mpr ⟨p, hp, rfl⟩))
structure Tbs (base : Heap) (mg : Str → Option Value) (cF cT cP PF PT PP : Addr) : Prop where
  bF : TabB base mg cF PF
  bT : TabB base mg cT PT
  bP : TabB base mg cP PP
  n1 : PF ≠ PT
  n2 : PF ≠ PP
  n3 : PT ≠ PP
abbrev sAtPart : Stmt := (L2.defBody sFolded).getD 0 (.Pass ⟨0, 0, 0, 0⟩)
abbrev nAtPart : List Str := ["part", "came", "at_plain", "at_signed"]
theorem scAtPart : NScope nAtPart ["part", "came"] ["at_plain", "at_signed"] (C8.fnScope sAtPart) := nscope_by (by decide +kernel)
section
variable {P : Program} {w : World} {K : Frag} {mg : Str → Option Value} {base : Heap} {cF cT cP PF PT PP : Addr}
def spPl (W : Str → Prop) (H0 : Hp) (f : Str → Ty) : Sp := fun vs H Q _ => ∃ z, vs = [.str z] ∧ ExtN H0 H ∧ W z ∧ IsW z ∧ ∀ v' H', Same H H' → TyAt H' v' (f z) → Q v' H'
def spSg (g : Sg → Ty → Ty → Ty) : Sp := fun vs H Q _ => ∃ s x y a b, vs = [.str (Sg.str s), x, y] ∧ TyAt H x a ∧ TyAt H y b ∧ ∀ v' H', Same H H' → TyAt H' v' (g s a b) → Q v' H'
theorem ok_atPart {qual : Str} {cl : List (Str × Addr)} {c' f1 f2 f3 : Addr} {D : Pins} {EX : Exts} {pl : Str → Ty} {sg : Sg → Ty → Ty → Ty} {W : Str → Prop} {H0 : Hp} (C1 : Callee P w K mg base 1 f1 (spPl W H0 pl) D EX) (C2 : Callee P w K mg base 1 f2 (spSg sg) D EX)
    (hf : (f3, FnO f3 (NF.of sAtPart "at_part" qual cl c')) ∈ EX) (hc : (c', CodeO c' qual) ∈ EX) (C : CellD D cl ["at_plain", "at_signed"] [some (.ref f1), some (.ref f2)]) :
    Callee P w K mg base 2 f3 (spNode W H0 (Ty.fold pl sg)) D EX := by
  refine callee_def (N := nAtPart) (ps := ["part", "came"]) (F := NF.of sAtPart "at_part" qual cl c') scAtPart (fun doc pm ctv us hl => match us, hl with | [_, _], _ => rfl) (fun vs H Q h => ?_) hf hc C (fun A outer s H vs Q hr dp hx h => ?_)
  · obtain ⟨_, _, _, _, rfl, _⟩ := h
    rfl
  · obtain ⟨x, u, L, us, rfl, he0, hW, hxu, eL, hU, k⟩ := h
    refine ⟨_, pss_one (ps_ret (pe_ifExp (pt_truth (pv 1) (by intro _; rfl))
      (pe_callee (i := 3) C2 hr rfl dp rfl (.inr (.inr rfl)) (pa_cons (pe_ix ix_tup (pv 0) pe_int (fun _ _ => rfl)) (pa_cons (pe_ix ix_list (pv 1) pe_int (fun _ _ => rfl)) (pa_cons (pe_ix ix_list (pv 1) pe_int (fun _ _ => rfl)) pa_nil))))
      (pe_callee (i := 2) C1 hr rfl dp rfl (.inr (.inr rfl)) (pa_cons (pv 0) pa_nil)))), ?_⟩
    refine ⟨_, rfl, _, .inl ⟨_, SqL.of eL, rfl⟩, ?_⟩
    cases hxu with
    | @w z hz =>
      cases hU
      exact iteF ⟨rfl, hx, _, rfl, hx, z, rfl, he0, hW z rfl, hz, k⟩
    | @n p g x1 x2 a b e k1 k2 =>
      cases hU with
      | @cons r1 _ _ _ q1 hU =>
        cases hU with
        | @cons r2 _ _ _ q2 hU =>
          cases hU
          exact iteT ⟨rfl, hx, _, rfl, p, _, _, _, rfl, rfl, SqT.of e, atI_nat (j := 0) rfl, _, rfl, L, _, _, _, rfl, rfl, SqL.of eL, atI_nat (j := 0) rfl, _, rfl, L, _, _, _, rfl, rfl, SqL.of eL, atI_nat (j := 1) rfl, hx, g, r1, r2, _, _, rfl, q1, q2, k⟩
def spFolded (P : Program) (w : World) (K : Frag) (mg : Str → Option Value) (base : Heap) (PF PT PP : Addr) (D : Pins) : Sp := fun vs H Q _ => ∃ v t f1 f2 pl sg EX W H0, vs = [v, .ref f1, .ref f2] ∧ ExtN H0 H ∧ (∀ u ∈ t.nodes, OkW W u) ∧ TyAt H v t ∧ t.size ≤ 1000000 ∧
  Callee P w K mg base 1 f1 (spPl W H0 pl) D EX ∧ Callee P w K mg base 1 f2 (spSg sg) D EX ∧ ExOk EX H ∧ (∀ p ∈ EX, ∀ ps, p.2 ≠ HO.tbl ps) ∧ Tabs (T3 PF PT PP) H ∧
  ∀ v' H', ExtN H H' → Tabs (T3 PF PT PP) H' → TyAt H' v' (t.fold pl sg) → Q v' H'
theorem memT1 : (PF, fun (_ _ : Nat) => ("folded.<locals>.at_part" : Str)) ∈ toN (T3 PF PT PP) := List.mem_cons_self
theorem mem3 {p : Addr × Str} (hp : p ∈ T3 PF PT PP) : p = (PF, ("folded.<locals>.at_part" : Str)) ∨ p = (PT, ("turned.<locals>.<lambda>" : Str)) ∨ p = (PP, ("put_in.<locals>.<lambda>" : Str)) := by
  simpa using hp
theorem hAtB : ndefB (L2.defScope sFolded) (C8.fnScope sAtPart) ["at_plain", "at_signed"] = true := by decide +kernel
theorem ok_folded {f fi fn fp cI : Addr} {fd fdi fdn fdp : FuncData} (T : TopC K mg "folded" sFolded pFolded f fd cF) (TI : TopC K mg "from_inside" sFromInside pFromInside fi fdi cI) (TN : Top K mg "nodes_in" sNodesIn pNodesIn fn fdn)
    (TP : Top K mg "_parts_of" sPartsOf pPartsOf fp fdp) (B : Blt mg) (tb : Tbs base mg cF cT cP PF PT PP) : FnD P w K mg base 4 f fd pFolded (spFolded P w K mg base PF PT PP) := by
  have GI : FnD P w K mg base 3 fi fdi pFromInside (spFI P w K mg base fp) := ok_fromInside TI TN TP B
  refine T.fnd scFolded (fun D vs H Q h => ?_) (fun D A outer s H vs Q hr dp h => ?_)
  · obtain ⟨_, _, _, _, _, _, _, _, _, rfl, _⟩ := h
    rfl
  · obtain ⟨v, t, f1, f2, pl, sg, EX, W, H0, rfl, he0, hW, ht, hz, C1, C2, hx, nx, hT, k⟩ := h
    have hu : ∀ p ∈ toN (T3 PF PT PP), p.1 = PF → p.2 = fun _ _ => ("folded.<locals>.at_part" : Str) := by
      intro q hq e
      obtain ⟨p, hp, rfl⟩ := List.mem_map.mp hq
      rcases mem3 hp with rfl | rfl | rfl
      · rfl
      · exact absurd e.symm tb.n1
      · exact absurd e.symm tb.n2
    refine ⟨_, pss_cons (ps_ndefMS (st := sAtPart) (T := toN (T3 PF PT PP)) (nm := fun _ _ => "folded.<locals>.at_part") (i := 3) rfl tb.bF rfl memT1 (show (_ : Str) = (("folded" : Str) ++ (".<locals>." : Str)) ++ ("at_part" : Str) by decide +kernel) hu (ndef_free hAtB) rfl rfl rfl scFolded.nd rfl (.inl rfl) (.inl rfl))
      (pss_one (ps_ret (pe_dcall (D0 := D) (cl := _) (fr := ["at_plain", "at_signed"]) (js := [1, 2]) GI hr rfl (fun _ => rfl) dp (fun ok => Caps.made ok (ndef_free hAtB) (ndef_fr hAtB) rfl) rfl TI.T.g TI.T.F.kp TI.T.b
        (pa_cons (pv 0) (pa_cons (pe_glob (v := .ref fp) rfl TP.g rfl) (pa_cons (pv 3) pa_nil)))))), ?_⟩
    refine ⟨tabsN_of hT, fun f3 c' H1 eN nn T1 f0 e1 e2 => ?_⟩
    have hx1 : ExOk EX H1 := fun p hp => eN p.1 p.2 (hx p hp) (nx p hp)
    refine ⟨v, rfl, _, rfl, fun D1 CD => ?_⟩
    refine ⟨v, t, f3, Ty.fold pl sg, EX ++ [(f3, FnO f3 (NF.of sAtPart "at_part" (("folded" : Str) ++ (".<locals>." : Str) ++ ("at_part" : Str)) _ c')), (c', CodeO c' (("folded" : Str) ++ (".<locals>." : Str) ++ ("at_part" : Str)))], W, H0, rfl, he0.trans eN, hW, ht.mono (ExtN.tk eN), hz, ok_atPart (C1.mono (Nat.le_refl _) (fun p hp => List.mem_append.mpr (.inl hp)) fun p hp => List.mem_append.mpr (.inl hp)) (C2.mono (Nat.le_refl _) (fun p hp => List.mem_append.mpr (.inl hp)) fun p hp => List.mem_append.mpr (.inl hp))
      (List.mem_append.mpr (.inr List.mem_cons_self)) (List.mem_append.mpr (.inr (List.mem_cons_of_mem _ List.mem_cons_self))) (CD.mono fun p hp => List.mem_append.mpr (.inr hp)), ?_, fun v' H' s' hv' => k v' H' (eN.trans (ExtN.of_same s')) ((tabs_of T1).ext s') hv'⟩
    intro p hp
    rcases List.mem_append.mp hp with hp | hp
    · exact hx1 p hp
    · rcases List.mem_cons.mp hp with rfl | hp
      · exact e1
      · rcases List.mem_cons.mp hp with rfl | hp
        · exact e2
        · exact absurd hp (by simp)
end
end K3

namespace K3
open PySem PySem.Spec PyProof.Rows L2 NdefX LamX KT
open PySem.W (Frag)
def Sg.turn : Sg → Sg
  | .ov => .un
  | .th => .th
  | .un => .ov
def Ty.turned : Ty → Ty
  | .w z => .w z
  | .n g a b => .n g.turn b.turned a.turned
theorem Ty.turned_fold (t : Ty) : t.fold .w (fun s a b => .n s.turn b a) = t.turned := by
  induction t with
  | w _ => rfl
  | n g a b i j => simp only [Ty.fold, Ty.turned, i, j]
section
variable {P : Program} {w : World} {K : Frag} {mg : Str → Option Value} {base : Heap} {cF cT cP PF PT PP : Addr}
theorem ok_turnedSign {f : Addr} {fd : FuncData} (T : Top K mg "_turned_sign" sTurnedSign pTurnedSign f fd) : FnOk P w K mg base L2.CX0 1 f fd pTurnedSign (spSg fun s a b => .n s.turn b a) := by
  refine T.F.ok scTurnedSign (fun vs H Q E h => ?_) (fun cdv A outer s H vs Q E hr h => ?_)
  · obtain ⟨_, _, _, _, _, rfl, _⟩ := h
    rfl
  · obtain ⟨g, x, y, a, b, rfl, h1, h2, k⟩ := h
    refine ⟨_, (pss_cons (ps_if (pt_cmpR op_eq (pv 0) pe_str (nomark _)) (pss_one (ps_ret (pe_tup (pa_cons pe_str (pa_cons (pv 2) (pa_cons (pv 1) pa_nil)))))) pss_nil)
      (pss_cons (ps_if (pt_cmpR op_eq (pv 0) pe_str (nomark _)) (pss_one (ps_ret (pe_tup (pa_cons pe_str (pa_cons (pv 2) (pa_cons (pv 1) pa_nil)))))) pss_nil)
      (pss_one (ps_ret (pe_tup (pa_cons pe_str (pa_cons (pv 2) (pa_cons (pv 1) pa_nil)))))))), ?_⟩
    have fin : ∀ (g' : Sg) (p : Addr), g.turn = g' → H p = none → Q (.ref p) (upd H p (.tup [.str g'.str, y, x])) := fun g' p e hp => by
      subst e
      exact k _ _ (same_upd hp) (.n upd_same (h2.mono (TK.upd_new hp)) (h1.mono (TK.upd_new hp)))
    have l3 : 3 ≤ sizeLine := by rw [sizeLine_eq]; omega
    cases g with
    | ov => exact ⟨_, rfl, rfl, true, congrArg V.bl (decide_eq_true rfl), iteT ⟨_, rfl, _, rfl, l3, fun p hp => fin .un p rfl hp⟩⟩
    | un => exact ⟨_, rfl, rfl, false, congrArg V.bl (decide_eq_false (by decide)), iteF ⟨_, rfl, rfl, true, congrArg V.bl (decide_eq_true rfl), iteT ⟨_, rfl, _, rfl, l3, fun p hp => fin .ov p rfl hp⟩⟩⟩
    | th => exact ⟨_, rfl, rfl, false, congrArg V.bl (decide_eq_false (by decide)), iteF ⟨_, rfl, rfl, false, congrArg V.bl (decide_eq_false (by decide)), iteF ⟨_, rfl, _, rfl, l3, fun p hp => fin .th p rfl hp⟩⟩⟩
/-- what folded stands upon -/
structure TFs (K : Frag) (mg : Str → Option Value) (base : Heap) (ff fi fn fp cI cF cT cP PF PT PP : Addr) (fdf fdi fdn fdp : FuncData) : Prop where
  TF : TopC K mg "folded" sFolded pFolded ff fdf cF
  TI : TopC K mg "from_inside" sFromInside pFromInside fi fdi cI
  TN : Top K mg "nodes_in" sNodesIn pNodesIn fn fdn
  TP : Top K mg "_parts_of" sPartsOf pPartsOf fp fdp
  tb : Tbs base mg cF cT cP PF PT PP
def spTurned (PF PT PP : Addr) : Sp := fun vs H Q _ => ∃ v t, vs = [v] ∧ TyAt H v t ∧ t.size ≤ 1000000 ∧ Tabs (T3 PF PT PP) H ∧ ∀ v' H', ExtN H H' → Tabs (T3 PF PT PP) H' → TyAt H' v' t.turned → Q v' H'
theorem ok_turned {f ff fi fn fp cI fc fts fis fss fws : Addr} {fd fdf fdi fdn fdp fdc fdts fdis fdss fdws : FuncData} (T : TopC K mg "turned" sTurned pTurned f fd cT) (U : TFs K mg base ff fi fn fp cI cF cT cP PF PT PP fdf fdi fdn fdp)
    (TC : Top K mg "check_kind" sCheckKind pCheckKind fc fdc) (TT : Top K mg "_turned_sign" sTurnedSign pTurnedSign fts fdts) (I : TIs K mg fis fss fws fdis fdss fdws) : FnOk P w K mg base L2.CX0 5 f fd pTurned (spTurned PF PT PP) := by
  have GF : FnD P w K mg base 4 ff fdf pFolded (spFolded P w K mg base PF PT PP) := ok_folded U.TF U.TI U.TN U.TP I.B U.tb
  have GC : FnOk P w K mg base L2.CX0 3 fc fdc pCheckKind spCheckKind := ok_checkKind TC I
  have GT : FnOk P w K mg base L2.CX0 1 fts fdts pTurnedSign (spSg fun s a b => .n s.turn b a) := ok_turnedSign TT
  have TF := U.TF
  refine FnD.ok (T.fnd scTurned (sp := fun _ => spTurned PF PT PP) (fun D vs H Q h => ?_) (fun D A outer s H vs Q hr dp h => ?_)) fun vs H Q E h => h
  · obtain ⟨_, _, rfl, _⟩ := h
    rfl
  · obtain ⟨v, t, rfl, ht, hz, hT, k⟩ := h
    have hr3 : Room 3 _ := hr.mono (by decide)
    have hu : ∀ p ∈ T3 PF PT PP, p.1 = PT → p.2 = ("turned.<locals>.<lambda>" : Str) := by
      intro p hp e
      rcases mem3 hp with rfl | rfl | rfl
      · exact absurd e U.tb.n1
      · rfl
      · exact absurd e.symm U.tb.n3
    have hm : (PT, ("turned.<locals>.<lambda>" : Str)) ∈ T3 PF PT PP := List.mem_cons_of_mem _ List.mem_cons_self
    have eq : (("turned" : Str) ++ (".<locals>." : Str)) ++ ("<lambda>" : Str) = ("turned.<locals>.<lambda>" : Str) := by decide +kernel
    refine ⟨_, (pss_cons (ps_expr (pe_call GC hr3 rfl TC.g TC.F.kp TC.b .nil pass0 (pa_cons (pv 0) pa_nil)))
      (pss_one (ps_ret (pe_dcall (D0 := D) (cl := []) (fr := []) (js := []) GF hr rfl (fun _ => rfl) dp (fun ok => Caps.nil) rfl TF.T.g TF.T.F.kp TF.T.b
        (pa_cons (pv 0) (pa_cons (pe_lamV (T := T3 PF PT PP) U.tb.bT rfl (by show (PT, (("turned" : Str) ++ (".<locals>." : Str)) ++ ("<lambda>" : Str)) ∈ _; rw [eq]; exact hm) (fun p hp e => (hu p hp e).trans eq.symm) rfl (ndef_free (sc := L2.defScope sTurned) (fr := []) (by decide +kernel))) (pa_cons (pe_glob (v := .ref fts) rfl TT.g rfl) pa_nil))))))), ?_⟩
    refine ⟨v, rfl, v, t, rfl, ht, hz, fun H1 s1 => ⟨v, rfl, hT.ext s1, fun f1 c' H2 eN nn T2 f0 e1 e2 => fun D1 CD => ?_⟩⟩
    obtain ⟨EX, C1, x1, n1⟩ := lam_callee (P := P) (w := w) (K := K) (mg := mg) (base := base) (k := 0) (sp := spPl (fun _ => True) H2 Ty.w) (D := D ++ D1) (N := ["word"]) (ps := ["word"]) (fr := []) (ws := []) e1 e2 (nscope_by (by dsimp only [lamF]; decide +kernel)) (fun pm ctv us hl => match us, hl with | [_], _ => rfl)
      (fun vs H Q h => by obtain ⟨_, rfl, _⟩ := h; rfl) CellD.nil (fun A outer s H vs Q hr d h => by
        obtain ⟨z, rfl, _, _, hz, k⟩ := h
        exact ⟨_, pv 0, _, rfl, k _ H (Same.refl H) (.w hz)⟩)
    have C2 := (callee_top GT TT.F TT.b).mono (D' := D ++ D1) (EX' := EX) (Nat.le_refl 1) (fun p hp => absurd hp (by simp)) (fun p hp => absurd hp (by simp))
    have tk := (TK.of_same s1).trans (ExtN.tk eN)
    refine ⟨v, t, f1, fts, Ty.w, _, EX, _, H2, rfl, ExtN.refl _, fun _ _ _ _ => trivial, ht.mono tk, hz, C1, C2, x1, n1, T2, fun v' H' e' T' hv' => k v' H' (((ExtN.of_same s1).trans eN).trans e') T' ?_⟩
    rw [← Ty.turned_fold]
    exact hv'
end
end K3

namespace K3
open PySem PySem.Spec PyProof.Rows L2 KT
open PySem.W (Frag)
open TL (tl tl_append)
theorem PurseAt.mono {H : Hp} {a : Addr} {n m : Nat} (h : PurseAt H a n) (l : n ≤ m) : PurseAt H a m := by
  obtain ⟨p0, p1, p2, p3, e, h0, h1, h1', h2, h2', h3, h3'⟩ := h
  exact ⟨p0, p1, p2, p3, e, h0, h1, h1', h2, by omega, h3, h3'⟩
theorem PurseAt.upd {H : Hp} {a b : Addr} {n : Nat} {o : HO} (h : PurseAt H a n) (l : a ≠ b) : PurseAt (upd H b o) a n := by
  obtain ⟨p0, p1, p2, p3, e, r⟩ := h
  exact ⟨p0, p1, p2, p3, by rw [upd_ne l]; exact e, r⟩
theorem PurseAt.ne {H : Hp} {a b : Addr} {n : Nat} (h : PurseAt H a n) (e : H b = none) : a ≠ b := by
  obtain ⟨p0, p1, p2, p3, e', _⟩ := h
  exact ne_of_none e' e
theorem KeepBut.upd_new {a b : Addr} {H H' : Hp} {o : HO} (k : KeepBut a H H') (n : H b = none) : KeepBut a H (upd H' b o) := fun c u e hc => by
  rw [upd_ne (ne_of_none e n)]
  exact k c u e hc
theorem isW_bent {b : Str} {s c : Nat} (h : IsW b) (hs : s < b.length) (hc : 97 ≤ c ∧ c ≤ 122) : IsW (cutS b none (some (s : Int)) ++ (⟨#[c]⟩ : Str) ++ cutS b (some ((s : Int) + 1)) none) := by
  obtain ⟨h1, h2, h3⟩ := h
  have e1 : (cutS b none (some (s : Int))).cps.toList = b.cps.toList.take s := by
    unfold cutS
    rw [HT.sIx_nat, HT.sIx_none]
    have : min s b.length - 0 = s := by omega
    rw [this]
    simp
  have e2 : (cutS b (some ((s : Int) + 1)) none).cps.toList = b.cps.toList.drop (s + 1) := by
    unfold cutS
    have e : ((s : Int) + 1) = ((s + 1 : Nat) : Int) := by omega
    rw [e, HT.sIx_nat, HT.sIx_none]
    have : min (s + 1) b.length = s + 1 := by omega
    rw [this]
    have l : b.cps.toList.length = b.length := Array.length_toList
    show (List.take _ _).toArray.toList = _
    rw [List.take_of_length_le (by rw [List.length_drop, l]; exact Nat.le_refl _)]
  have et : (cutS b none (some (s : Int)) ++ (⟨#[c]⟩ : Str) ++ cutS b (some ((s : Int) + 1)) none).cps.toList = b.cps.toList.take s ++ [c] ++ b.cps.toList.drop (s + 1) := by
    show tl _ = _
    rw [tl_append, tl_append]
    show (cutS b none (some (s : Int))).cps.toList ++ [c] ++ (cutS b (some ((s : Int) + 1)) none).cps.toList = _
    rw [e1, e2]
  have l : b.cps.toList.length = b.length := Array.length_toList
  have el : (cutS b none (some (s : Int)) ++ (⟨#[c]⟩ : Str) ++ cutS b (some ((s : Int) + 1)) none).length = b.length := by
    have q := congrArg List.length et
    rw [List.length_append, List.length_append, List.length_take, List.length_drop, l, List.length_singleton] at q
    have q2 : (cutS b none (some (s : Int)) ++ (⟨#[c]⟩ : Str) ++ cutS b (some ((s : Int) + 1)) none).cps.toList.length = (cutS b none (some (s : Int)) ++ (⟨#[c]⟩ : Str) ++ cutS b (some ((s : Int) + 1)) none).length := Array.length_toList
    omega
  refine ⟨by omega, by omega, fun x hx => ?_⟩
  rw [et] at hx
  rcases List.mem_append.mp hx with hx | hx
  · rcases List.mem_append.mp hx with hx | hx
    · exact h3 x (List.mem_of_mem_take hx)
    · rw [List.mem_singleton.mp hx]
      exact hc
  · exact h3 x (List.mem_of_mem_drop hx)
theorem cutS_len (z : Str) (lo hi : Option Int) : (cutS z lo hi).length ≤ z.length := by
  have l : z.cps.toList.length = z.length := Array.length_toList
  have e : (cutS z lo hi).length = ((z.cps.toList.drop (HT.sIx z.length 0 lo)).take (HT.sIx z.length z.length hi - HT.sIx z.length 0 lo)).length := by
    unfold cutS Str.length
    rw [List.size_toArray]
  rw [e, List.length_take, List.length_drop]
  omega
theorem flat_map (zs : List Str) : (zs.map V.str).all flatV = true := by
  rw [List.all_eq_true]
  intro x hx
  obtain ⟨z, _, rfl⟩ := List.mem_map.mp hx
  rfl
theorem inV_str (z : Str) (zs : List Str) : inV (.str z) (zs.map V.str) = decide (z ∈ zs) := by
  unfold inV
  rw [List.any_map, Bool.eq_iff_iff, List.any_eq_true, decide_eq_true_eq]
  constructor
  · rintro ⟨x, hx, e⟩
    have e' : (x == z) = true := e
    rw [← eq_of_beq e']
    exact hx
  · intro h
    exact ⟨z, h, (show (z == z) = true from beq_self_eq_true z)⟩
section
variable {P : Program} {w : World} {K : Frag} {mg : Str → Option Value} {base : Heap}
def spWords : Sp := fun vs H Q _ => ∃ (a : Addr) (n : Nat) (many : Int), vs = [.ref a, .int many] ∧ PurseAt H a n ∧ n ≤ 800000000000 ∧ 1 ≤ many ∧ many ≤ 3 ∧
  ∀ (L : Addr) (zs : List Str) (H' : Hp), (∀ z ∈ zs, IsW z) → zs.Nodup → zs.length = many.toNat → KeepBut a H H' → H L = none → H' L = some (.lst (zs.map V.str)) → PurseAt H' a (n + 50) → Q (.ref L) H'
theorem nodup_len : ∀ (l D : List Str), l.Nodup → (∀ x ∈ l, x ∈ D) → l.length ≤ D.length
  | [], _, _, _ => Nat.zero_le _
  | x :: l, D, h, s => by
    obtain ⟨h1, h2⟩ := List.nodup_cons.mp h
    have hx := s x List.mem_cons_self
    have q := nodup_len l (D.erase x) h2 fun y hy => (List.mem_erase_of_ne (fun e => h1 (by rw [← e]; exact hy))).mpr (s y (List.mem_cons_of_mem _ hy))
    rw [List.length_erase_of_mem hx] at q
    have : 0 < D.length := List.length_pos_of_mem hx
    rw [List.length_cons]
    omega
def letters : List Str := (List.range 26).map fun j => (⟨#[97 + j]⟩ : Str)
theorem letters_nd : letters.Nodup := by decide +kernel
theorem abc_signs : signsV abc = letters.map V.str := by decide +kernel
theorem letters_w {y : Str} (h : y ∈ letters) : IsW y := by
  obtain ⟨j, hj, rfl⟩ := List.mem_map.mp h
  have := List.mem_range.mp hj
  refine ⟨by show 1 ≤ 1; omega, by show 1 ≤ 8; omega, fun c hc => ?_⟩
  have hc' : c ∈ [97 + j] := hc
  have := List.mem_singleton.mp hc'
  omega
/-- a letter that none of a few words is -/
theorem free_letter (zs : List Str) (h : zs.length ≤ 3) : ∃ y r, letters.filter (fun z => decide (z ∉ zs)) = y :: r := by
  cases e : letters.filter (fun z => decide (z ∉ zs)) with
  | cons y r => exact ⟨y, r, rfl⟩
  | nil =>
    have q := nodup_len letters zs letters_nd fun x hx => by
      refine Classical.byContradiction fun n => ?_
      have : x ∈ letters.filter (fun z => decide (z ∉ zs)) := List.mem_filter.mpr ⟨hx, decide_eq_true n⟩
      rw [e] at this
      cases this
    have : letters.length = 26 := by decide
    omega
theorem filter_snoc' {α : Type} (p : α → Bool) (l : List α) (i : Nat) (x : α) (h : l[i]? = some x) : (l.take (i + 1)).filter p = if p x then (l.take i).filter p ++ [x] else (l.take i).filter p := by
  rw [List.take_add_one, h, List.filter_append]
  by_cases c : p x <;> simp [c]
theorem nodup_snoc {zs : List Str} {y : Str} (h : zs.Nodup) (n : y ∉ zs) : (zs ++ [y]).Nodup := by
  rw [List.nodup_append]
  refine ⟨h, by simp, fun a ha b hb e => ?_⟩
  rw [List.mem_singleton.mp hb] at e
  exact n (e ▸ ha)
theorem ok_words {f fw fd_ fm : Addr} {fd fdw fdd fdm : FuncData} (T : Top K mg "_law_words" sLWords pLWords f fd) (TW : Top K mg "_law_word" sLWord ["purse"] fw fdw) (TD : Top K mg "_law_draw" sLDraw ["purse", "many"] fd_ fdd)
    (TM : Top K mg "_law_mixed" sLMixed ["seed", "spin", "at"] fm fdm) (B : Blt mg) : FnOk P w K mg base CX0 4 f fd pLWords spWords := by
  have GD : FnOk P w K mg base CX0 2 fd_ fdd ["purse", "many"] spDraw := ok_draw TD TM B
  have GW : FnOk P w K mg base CX0 3 fw fdw ["purse"] spWord := ok_word TW TD TM B
  refine T.F.ok scLWords (fun vs H Q E h => ?_) (fun cdv A outer s H vs Q E hr h => ?_)
  · obtain ⟨_, _, _, rfl, _⟩ := h
    rfl
  · obtain ⟨a, n, many, rfl, hp, hn, hm1, hm2, k⟩ := h
    have hr2 : Room 2 _ := hr.mono (by decide)
    refine ⟨_, (pss_cons (ps_par (i := 2) (j := 3) rfl scLWords.nd rfl rfl (by decide) rfl rfl (pa_cons (pe_call GW hr rfl TW.g TW.F.kp TW.b .nil pass0 (pa_cons (pv 0) pa_nil)) (pa_cons (pe_cmpR op_eq (pe_call GD hr2 rfl TD.g TD.F.kp TD.b .nil pass0 (pa_cons (pv 0) (pa_cons pe_int pa_nil))) pe_int (nomark _)) pa_nil)) (by rfl))
      (pss_cons (ps_asg (pe_tup (pa_cons (pe_call GD hr2 rfl TD.g TD.F.kp TD.b .nil pass0 (pa_cons (pv 0) (pa_cons (pe_callB call_len_str (by rfl) B.len PySem.boot_len (pa_cons (pv 2) pa_nil)) pa_nil))) (pa_cons (pe_lst pa_nil) pa_nil))) (pg_tup (by rfl) (pgs_cons (pg_name (i := 4) scLWords.nd rfl (Or.inl rfl)) (pgs_cons (pg_name (i := 5) scLWords.nd rfl (Or.inr rfl)) pgs_nil))))
      (pss_cons (ps_for PassesOwn.never rfl (pi_range1 (by rfl) B.range (pa_cons (pv 1) pa_nil)) (pg_name (i := 6) scLWords.nd rfl (Or.inl rfl))
        (pss_cons (ps_set (i := 7) scLWords.nd rfl (Or.inl rfl) (pe_op op_add_str (pe_op op_add_str (pe_slice sl_str (pv 2) po_none (po_some (pv 4))) (pe_ix ix_str pe_str (pe_call GD hr2 rfl TD.g TD.F.kp TD.b .nil pass0 (pa_cons (pv 0) (pa_cons pe_int pa_nil))) (fun _ _ => rfl))) (pe_slice sl_str (pv 2) (po_some (pe_op op_add (pv 4) pe_int)) po_none)))
      (pss_cons (ps_if (pt_not (pt_val (pv 3))) (pss_one (ps_set (i := 7) scLWords.nd rfl (Or.inl rfl) (pe_call GW hr rfl TW.g TW.F.kp TW.b .nil pass0 (pa_cons (pv 0) pa_nil)))) pss_nil)
      (pss_cons (ps_if (pt_cmpR op_in_seq (pv 7) (pv 5) (by rfl))
            (pss_one (ps_set (i := 7) scLWords.nd rfl (Or.inl rfl) (pe_ix ix_list (pe_lc (own := [("letter", 8)]) (g := gName 8) rfl scLWords.nd (pi_list (pe_callTy (call_listS rfl) (by rfl) B.list (by decide +kernel) (pa_cons pe_str pa_nil))) (blkOk_by (N := nLWords) (sc := defScope sLWords) (by decide +kernel)) (fun _ _ _ _ _ => pg_name (i := 8) scLWords.nd rfl (Or.inl rfl)) (fun _ _ _ _ _ => pts_one (pt_cmpR (show OpR _ _ (rIn K true) from op_notIn_seq) (pv 8) (pv 5) (by rfl))) (fun _ _ _ _ _ => (pv 8))) pe_int (fun _ _ => rfl)))) pss_nil)
      (pss_one (ps_expr (pe_bm PySem.F.plainAttrs_list PySem.F.slot_list_append PySem.F.type_list_append mt_append (pv 5) (pa_cons (pv 7) pa_nil))))))))
      (pss_one (ps_ret (pv 5)))))), ?_⟩
    refine ⟨_, rfl, a, n, rfl, hp, by omega, fun b H1 hb kb1 hp1 => ?_⟩
    obtain ⟨b1, b2, b3⟩ := id hb
    refine ⟨_, rfl, a, n + 10, 3, rfl, hp1, by omega, by decide, by decide, fun d2 H2 c0 c1 off2 hp2 => ⟨rfl, _, _, rfl, ?_⟩⟩
    have kb2 : KeepBut a H H2 := kb1.trans (.of_off off2)
    refine ⟨_, rfl, _, rfl, _, rfl, by rw [sizeLine_eq]; omega, a, n + 11, _, rfl, hp2, by omega, by omega, by omega, fun s0 H3 e0 e1 off3 hp3 => ?_⟩
    have kb3 : KeepBut a H H3 := kb2.trans (.of_off off3)
    obtain ⟨s, rfl⟩ := Int.eq_ofNat_of_zero_le e0
    refine ⟨by show 0 ≤ sizeLine; exact Nat.zero_le _, fun L hL => ⟨by show 2 ≤ sizeLine; rw [sizeLine_eq]; omega, fun T hT => ?_⟩⟩
    have nLa : a ≠ L := hp3.ne hL
    have nHL : H L = none := kb3.free hL nLa.symm
    have nLT : L ≠ T := ne_of_none upd_same hT
    have nT : H3 T = none := by
      rw [upd_ne nLT.symm] at hT
      exact hT
    have nHT : H T = none := kb3.free nT (hp3.ne nT).symm
    have hp4 := (hp3.upd (o := .lst []) nLa).upd (b := T) (o := .tup [.int (s : Nat), .ref L]) (hp3.ne nT)
    have kb4 : KeepBut a H (upd (upd H3 L (.lst [])) T (.tup [.int (s : Nat), .ref L])) := (kb3.upd_new nHL).upd_new nHT
    refine ⟨T, _, rfl, SqT.of upd_same, rfl, _, _, rfl, _, _, rfl, rfl, ?_⟩
    refine ⟨_, rfl, many, rfl, by omega, by omega, ?_⟩
    refine for_range (lo := 0) (n := many.toNat) (fun i σ H' => ∃ (v6 v7 v8 : Option V) (zs : List Str), σ = [some (.ref a), some (.int many), some (.str b), some (.bl (decide (V.int d2 = V.int 0))), some (.int (s : Nat)), some (.ref L), v6, v7, v8] ∧ (∀ z ∈ zs, IsW z) ∧ zs.Nodup ∧ zs.length = i ∧ KeepBut a H H' ∧ H' L = some (.lst (zs.map V.str)) ∧ PurseAt H' a (n + 12 + 11 * i))
      ⟨none, none, none, [], rfl, fun z hz => absurd hz (by simp), List.nodup_nil, rfl, kb4, by rw [upd_ne nLT, upd_same]; rfl, hp4.mono (by omega)⟩ ?_ ?_
    · rintro i σ H' hi ⟨v6, v7, v8, zs, rfl, hzs, nd, hl, kb', eL', hp'⟩
      have hi3 : i < 3 := by omega
      refine ⟨_, rfl, _, rfl, _, rfl, b, rfl, by rw [sizeLine_eq]; omega, _, rfl, a, _, 26, rfl, hp', by omega, by decide, by decide, fun d5 H5 g0 g1 off5 hp5 => ?_⟩
      obtain ⟨j, rfl⟩ := Int.eq_ofNat_of_zero_le g0
      have hj : j < 26 := by omega
      have eL5 : H5 L = some (.lst (zs.map V.str)) := by rw [off5 L nLa.symm]; exact eL'
      have kb5 : KeepBut a H H5 := kb'.trans (.of_off off5)
      have lc1 := cutS_len b none (some (s : Int))
      have lc2 := cutS_len b (some ((s : Int) + 1)) none
      have hz : IsW (cutS b none (some (s : Int)) ++ (⟨#[97 + j]⟩ : Str) ++ cutS b (some ((s : Int) + 1)) none) := isW_bent hb (by omega) (by omega)
      refine ⟨abc, _, _, rfl, rfl, by decide, atI_nat (abc_at j hj), _, _, rfl, rfl, by rw [sizeLine_eq]; show _ + 1 ≤ _; omega, ?_⟩
      refine ⟨_, rfl, _, rfl, _, _, rfl, rfl, _, rfl, b, rfl, by rw [sizeLine_eq]; omega, _, _, rfl, rfl, by rw [sizeLine_eq, strLen_append]; show _ + 1 + _ ≤ _; omega, ?_⟩
      generalize decide (V.int d2 = V.int 0) = nb
      cases nb with
      | false =>
        refine ⟨_, rfl, _, rfl, iteT ⟨_, rfl, a, _, rfl, hp5, by omega, fun z H6 hz6 kb56 hp6 => ?_⟩⟩
        have hz := hz6
        have kb6 : KeepBut a H H6 := kb5.trans kb56
        have eL3 : H6 L = some (.lst (zs.map V.str)) := kb56 _ _ eL5 nLa.symm
        have hp7 : PurseAt H6 a (n + 12 + 11 * (i + 1)) := hp6.mono (by omega)
        refine ⟨_, rfl, _, rfl, L, _, rfl, .inl (SqL.of eL3), rfl, flat_map zs, _, rfl, ?_⟩
        rw [inV_str]
        refine ite2 (fun hin => ?_) (fun hin => ?_)
        · refine ⟨abc, rfl, by rw [sizeLine_eq]; decide, fun p hpn => ⟨p, rfl, ⟨_, SqL.of upd_same⟩, fun D hD => ?_⟩⟩
          have nLp : L ≠ p := ne_of_none eL3 hpn
          have npD : p ≠ D := ne_of_none upd_same hD
          have nLD : L ≠ D := ne_of_none (show upd _ p _ L = _ by rw [upd_ne nLp]; exact eL3) hD
          have nap := hp7.ne hpn
          have naD := (hp7.upd (o := .lst (signsV abc)) nap).ne hD
          refine lc_list (K := K) (xs := signsV abc) (fun i H' => H' = upd (upd H6 p (.lst (signsV abc))) D (.lst (((letters.take i).filter fun z => decide (z ∉ zs)).map V.str))) rfl ?_ ?_ ?_
          · rintro i H' hi rfl
            exact SqL.of (by rw [upd_ne npD, upd_same])
          · rintro i x H' hx rfl
            rw [abc_signs, List.getElem?_map] at hx
            obtain ⟨y, hy, rfl⟩ := Option.map_eq_some_iff.mp hx
            refine ⟨rfl, _, rfl, _, rfl, L, _, rfl, .inl (SqL.of (by rw [upd_ne nLD, upd_ne nLp]; exact eL3)), rfl, flat_map zs, _, rfl, ?_⟩
            rw [inV_str, filter_snoc' _ _ _ _ hy]
            by_cases c : y ∈ zs
            · rw [decide_eq_true c, decide_eq_false (not_not_intro c)]
              exact iteF rfl
            · rw [decide_eq_false c, decide_eq_true c]
              refine iteT ⟨_, rfl, _, upd_same, ?_, ?_⟩
              · rw [List.length_map, sizeLine_eq]
                have := List.length_filter_le (fun z => decide (z ∉ zs)) (letters.take i)
                have l26 : letters.length = 26 := by decide
                rw [List.length_take, l26] at this
                omega
              · rw [upd_upd, if_pos rfl, List.map_append]
                rfl
          · rintro H' rfl
            obtain ⟨y, r, hy⟩ := free_letter zs (by omega)
            have l26 : (signsV abc).length = letters.length := by rw [abc_signs, List.length_map]
            rw [l26, List.take_length, hy]
            have hm : y ∈ letters.filter (fun z => decide (z ∉ zs)) := by rw [hy]; exact List.mem_cons_self
            obtain ⟨hm1, hm2⟩ := List.mem_filter.mp hm
            have ny : y ∉ zs := of_decide_eq_true hm2
            have eL7 : upd (upd H6 p (.lst (signsV abc))) D (.lst ((y :: r).map V.str)) L = some (.lst (zs.map V.str)) := by rw [upd_ne nLD, upd_ne nLp]; exact eL3
            refine ⟨D, _, _, _, rfl, rfl, SqL.of upd_same, atI_nat (j := 0) rfl, ?_⟩
            refine ⟨_, rfl, .inl ⟨rfl, _, SqL.of eL7⟩, _, rfl, L, _, _, rfl, rfl, eL7, by rw [List.length_map, sizeLine_eq]; omega, ?_⟩
            refine ⟨_, _, _, zs ++ [y], rfl, fun z hz' => (List.mem_append.mp hz').elim (hzs z) fun q => (List.mem_singleton.mp q) ▸ letters_w hm1, nodup_snoc nd ny, by rw [List.length_append, hl]; rfl, ?_, by rw [upd_same, List.map_append]; rfl, ?_⟩
            · exact ((kb6.upd_new (kb6.free hpn nap.symm)).upd_new (kb6.free (by rw [upd_ne npD.symm] at hD; exact hD) naD.symm)).upd_new nHL
            · exact (((hp7.upd nap).upd naD).upd nLa).mono (Nat.le_refl _)
        · refine ⟨_, rfl, .inl ⟨rfl, _, SqL.of eL3⟩, _, rfl, L, _, _, rfl, rfl, eL3, by rw [List.length_map, sizeLine_eq]; omega, ?_⟩
          refine ⟨_, _, _, zs ++ [_], rfl, fun z hz' => (List.mem_append.mp hz').elim (hzs z) fun q => (List.mem_singleton.mp q) ▸ hz, nodup_snoc nd (of_decide_eq_false (by simpa using hin)), by rw [List.length_append, hl]; rfl, kb6.upd_new nHL, by rw [upd_same, List.map_append]; rfl, hp7.upd nLa⟩
      | true =>
        have kb6 := kb5
        have eL3 := eL5
        have hp7 : PurseAt H5 a (n + 12 + 11 * (i + 1)) := hp5.mono (by omega)
        refine ⟨_, rfl, _, rfl, iteF ?_⟩
        refine ⟨_, rfl, _, rfl, L, _, rfl, .inl (SqL.of eL3), rfl, flat_map zs, _, rfl, ?_⟩
        rw [inV_str]
        refine ite2 (fun hin => ?_) (fun hin => ?_)
        · refine ⟨abc, rfl, by rw [sizeLine_eq]; decide, fun p hpn => ⟨p, rfl, ⟨_, SqL.of upd_same⟩, fun D hD => ?_⟩⟩
          have nLp : L ≠ p := ne_of_none eL3 hpn
          have npD : p ≠ D := ne_of_none upd_same hD
          have nLD : L ≠ D := ne_of_none (show upd _ p _ L = _ by rw [upd_ne nLp]; exact eL3) hD
          have nap := hp7.ne hpn
          have naD := (hp7.upd (o := .lst (signsV abc)) nap).ne hD
          refine lc_list (K := K) (xs := signsV abc) (fun i H' => H' = upd (upd H5 p (.lst (signsV abc))) D (.lst (((letters.take i).filter fun z => decide (z ∉ zs)).map V.str))) rfl ?_ ?_ ?_
          · rintro i H' hi rfl
            exact SqL.of (by rw [upd_ne npD, upd_same])
          · rintro i x H' hx rfl
            rw [abc_signs, List.getElem?_map] at hx
            obtain ⟨y, hy, rfl⟩ := Option.map_eq_some_iff.mp hx
            refine ⟨rfl, _, rfl, _, rfl, L, _, rfl, .inl (SqL.of (by rw [upd_ne nLD, upd_ne nLp]; exact eL3)), rfl, flat_map zs, _, rfl, ?_⟩
            rw [inV_str, filter_snoc' _ _ _ _ hy]
            by_cases c : y ∈ zs
            · rw [decide_eq_true c, decide_eq_false (not_not_intro c)]
              exact iteF rfl
            · rw [decide_eq_false c, decide_eq_true c]
              refine iteT ⟨_, rfl, _, upd_same, ?_, ?_⟩
              · rw [List.length_map, sizeLine_eq]
                have := List.length_filter_le (fun z => decide (z ∉ zs)) (letters.take i)
                have l26 : letters.length = 26 := by decide
                rw [List.length_take, l26] at this
                omega
              · rw [upd_upd, if_pos rfl, List.map_append]
                rfl
          · rintro H' rfl
            obtain ⟨y, r, hy⟩ := free_letter zs (by omega)
            have l26 : (signsV abc).length = letters.length := by rw [abc_signs, List.length_map]
            rw [l26, List.take_length, hy]
            have hm : y ∈ letters.filter (fun z => decide (z ∉ zs)) := by rw [hy]; exact List.mem_cons_self
            obtain ⟨hm1, hm2⟩ := List.mem_filter.mp hm
            have ny : y ∉ zs := of_decide_eq_true hm2
            have eL7 : upd (upd H5 p (.lst (signsV abc))) D (.lst ((y :: r).map V.str)) L = some (.lst (zs.map V.str)) := by rw [upd_ne nLD, upd_ne nLp]; exact eL3
            refine ⟨D, _, _, _, rfl, rfl, SqL.of upd_same, atI_nat (j := 0) rfl, ?_⟩
            refine ⟨_, rfl, .inl ⟨rfl, _, SqL.of eL7⟩, _, rfl, L, _, _, rfl, rfl, eL7, by rw [List.length_map, sizeLine_eq]; omega, ?_⟩
            refine ⟨_, _, _, zs ++ [y], rfl, fun z hz' => (List.mem_append.mp hz').elim (hzs z) fun q => (List.mem_singleton.mp q) ▸ letters_w hm1, nodup_snoc nd ny, by rw [List.length_append, hl]; rfl, ?_, by rw [upd_same, List.map_append]; rfl, ?_⟩
            · exact ((kb6.upd_new (kb6.free hpn nap.symm)).upd_new (kb6.free (by rw [upd_ne npD.symm] at hD; exact hD) naD.symm)).upd_new nHL
            · exact (((hp7.upd nap).upd naD).upd nLa).mono (Nat.le_refl _)
        · refine ⟨_, rfl, .inl ⟨rfl, _, SqL.of eL3⟩, _, rfl, L, _, _, rfl, rfl, eL3, by rw [List.length_map, sizeLine_eq]; omega, ?_⟩
          refine ⟨_, _, _, zs ++ [_], rfl, fun z hz' => (List.mem_append.mp hz').elim (hzs z) fun q => (List.mem_singleton.mp q) ▸ hz, nodup_snoc nd (of_decide_eq_false (by simpa using hin)), by rw [List.length_append, hl]; rfl, kb6.upd_new nHL, by rw [upd_same, List.map_append]; rfl, hp7.upd nLa⟩
    · rintro σ H' ⟨v6, v7, v8, zs, rfl, hzs, nd, hl, kb', eL', hp'⟩
      exact ⟨_, rfl, k L zs H' hzs nd hl kb' nHL eL' (hp'.mono (by omega))⟩
end
end K3

namespace K3
open PySem PySem.Spec PyProof.Rows L2 KT
open PySem.W (Frag)
structure Plains (zs : List Str) : Prop where
  so : sortedS zs = true
  nd : zs.Nodup
  w : ∀ z ∈ zs, IsW z
  l1 : 1 ≤ zs.length
  l3 : zs.length ≤ 3
def isWB (z : Str) : Bool := decide (1 ≤ z.length) && decide (z.length ≤ 8) && z.cps.toList.all fun c => decide (97 ≤ c) && decide (c ≤ 122)
theorem isWB_ok {z : Str} (h : isWB z = true) : IsW z := by
  unfold isWB at h
  simp only [Bool.and_eq_true, decide_eq_true_eq, List.all_eq_true] at h
  exact ⟨h.1.1, h.1.2, h.2⟩
def plainsB (zs : List Str) : Bool := sortedS zs && decide zs.Nodup && zs.all isWB && decide (1 ≤ zs.length) && decide (zs.length ≤ 3)
theorem plainsB_ok {zs : List Str} (h : plainsB zs = true) : Plains zs := by
  unfold plainsB at h
  simp only [Bool.and_eq_true, decide_eq_true_eq, List.all_eq_true] at h
  exact ⟨h.1.1.1.1, h.1.1.1.2, fun z hz => isWB_ok (h.1.1.2 z hz), h.1.2, h.2⟩
def odds : List (List Str) := [["cut", "is", "then"], ["athens", "over", "then"], ["end", "over", "under"], ["back", "is", "on"]]
theorem odds_ok : (odds.all fun zs => [1, 2, 3].all fun m => plainsB (zs.take m)) = true := by decide +kernel
section
variable {P : Program} {w : World} {K : Frag} {mg : Str → Option Value} {base : Heap}
def spPlains : Sp := fun vs H Q _ => ∃ (a : Addr) (n : Nat) (most : Int), vs = [.ref a, .int most] ∧ PurseAt H a n ∧ n ≤ 700000000000 ∧ 1 ≤ most ∧ most ≤ 3 ∧
  ∀ (L : Addr) (zs : List Str) (H' : Hp), Plains zs → (zs.length : Int) ≤ most → KeepBut a H H' → H L = none → H' L = some (.lst (zs.map V.str)) → PurseAt H' a (n + 60) → Q (.ref L) H'
/-- what the draws stand upon -/
structure TDs (K : Frag) (mg : Str → Option Value) (fd_ fm fw fws fo : Addr) (fdd fdm fdw fdws fdo : FuncData) : Prop where
  TD : Top K mg "_law_draw" sLDraw ["purse", "many"] fd_ fdd
  TM : Top K mg "_law_mixed" sLMixed ["seed", "spin", "at"] fm fdm
  TW : Top K mg "_law_word" sLWord ["purse"] fw fdw
  TWs : Top K mg "_law_words" sLWords pLWords fws fdws
  TO : Top K mg "_law_one_of" sLOneOf ["purse", "some"] fo fdo
  B : Blt mg
theorem ok_plains {f fd_ fm fw fws fo : Addr} {fd fdd fdm fdw fdws fdo : FuncData} (T : Top K mg "_law_plains" sLPlains pLPlains f fd) (U : TDs K mg fd_ fm fw fws fo fdd fdm fdw fdws fdo) : FnOk P w K mg base CX0 5 f fd pLPlains spPlains := by
  have B := U.B
  have TD := U.TD
  have TO := U.TO
  have TWs := U.TWs
  have GD : FnOk P w K mg base CX0 2 fd_ fdd ["purse", "many"] spDraw := ok_draw U.TD U.TM U.B
  have GO : FnOk P w K mg base CX0 3 fo fdo ["purse", "some"] spOneOf := ok_oneOf U.TO U.TD U.TM U.B
  have GW : FnOk P w K mg base CX0 4 fws fdws pLWords spWords := ok_words U.TWs U.TW U.TD U.TM U.B
  refine T.F.ok scLPlains (fun vs H Q E h => ?_) (fun cdv A outer s H vs Q E hr h => ?_)
  · obtain ⟨_, _, _, rfl, _⟩ := h
    rfl
  · obtain ⟨a, n, most, rfl, hp, hn, hm1, hm2, k⟩ := h
    have hr2 : Room 2 _ := hr.mono (by decide)
    have hr3 : Room 3 _ := hr.mono (by decide)
    refine ⟨_, (pss_cons (ps_if (pt_cmpR op_eq (pe_call GD hr2 rfl TD.g TD.F.kp TD.b .nil pass0 (pa_cons (pv 0) (pa_cons pe_int pa_nil))) pe_int (nomark _))
        (pss_one (ps_ret (pe_slice sl_list (pe_call GO hr3 rfl TO.g TO.F.kp TO.b .nil pass0 (pa_cons (pv 0) (pa_cons (pe_lst (pa_cons (pe_lst (pa_cons pe_str (pa_cons pe_str (pa_cons pe_str pa_nil)))) (pa_cons (pe_lst (pa_cons pe_str (pa_cons pe_str (pa_cons pe_str pa_nil)))) (pa_cons (pe_lst (pa_cons pe_str (pa_cons pe_str (pa_cons pe_str pa_nil)))) (pa_cons (pe_lst (pa_cons pe_str (pa_cons pe_str (pa_cons pe_str pa_nil)))) pa_nil))))) pa_nil))) po_none (po_some (pv 1))))) pss_nil)
      (pss_one (ps_ret (pe_callB cr_sortedS (by rfl) B.sorted (by decide +kernel) (pa_cons (pe_call GW hr rfl TWs.g TWs.F.kp TWs.b .nil pass0 (pa_cons (pv 0) (pa_cons (pe_op op_add pe_int (pe_call GD hr2 rfl TD.g TD.F.kp TD.b .nil pass0 (pa_cons (pv 0) (pa_cons (pv 1) pa_nil)))) pa_nil))) pa_nil))))), ?_⟩
    refine ⟨_, rfl, a, n, 8, rfl, hp, by omega, by decide, by decide, fun d H1 c0 c1 off1 hp1 => ⟨rfl, _, rfl, ite2 (fun _ => ?_) (fun _ => ?_)⟩⟩
    · have l3 : 3 ≤ sizeLine := by rw [sizeLine_eq]; omega
      have l4 : 4 ≤ sizeLine := by rw [sizeLine_eq]; omega
      have kb1 : KeepBut a H H1 := .of_off off1
      refine ⟨_, rfl, l3, fun p1 n1 => ⟨l3, fun p2 n2 => ⟨l3, fun p3 n3 => ⟨l3, fun p4 n4 => ⟨l4, fun p5 n5 => ?_⟩⟩⟩⟩⟩
      have q1 := hp1.upd (o := .lst [.str "cut", .str "is", .str "then"]) (hp1.ne n1)
      have q2 := q1.upd (o := .lst [.str "athens", .str "over", .str "then"]) (q1.ne n2)
      have q3 := q2.upd (o := .lst [.str "end", .str "over", .str "under"]) (q2.ne n3)
      have q4 := q3.upd (o := .lst [.str "back", .str "is", .str "on"]) (q3.ne n4)
      have q5 := q4.upd (o := .lst [.ref p1, .ref p2, .ref p3, .ref p4]) (q4.ne n5)
      have s2 := same_upd (o := .lst [.str "athens", .str "over", .str "then"]) n2
      have s3 := same_upd (o := .lst [.str "end", .str "over", .str "under"]) n3
      have s4 := same_upd (o := .lst [.str "back", .str "is", .str "on"]) n4
      have s5 := same_upd (o := .lst [.ref p1, .ref p2, .ref p3, .ref p4]) n5
      have sa := (((same_upd (o := .lst [.str "cut", .str "is", .str "then"]) n1).trans s2).trans s3).trans (s4.trans s5)
      refine ⟨a, p5, n + 1, _, rfl, q5, by omega, (q4.ne n5).symm, upd_same, by show 1 ≤ 4; omega, by show 4 < 1048576; omega, fun i x H7 hx off7 hp7 => ?_⟩
      have kb7 : KeepBut a H H7 := (kb1.trans (.of_same sa)).trans (.of_off off7)
      have fin : ∀ (pi : Addr) (zs : List Str), zs ∈ odds → pi ≠ a → H7 pi = some (.lst (zs.map V.str)) → x = .ref pi →
          tPart (tVar 1) [some (.ref a), some (.int most)] H7 fun u H3 => rSlL K x none u H3 Q := by
        rintro pi zs hz npa e rfl
        refine ⟨_, rfl, most, rfl, pi, _, rfl, SqL.of e, fun q nq => ?_⟩
        obtain ⟨m, rfl⟩ := Int.eq_ofNat_of_zero_le (show 0 ≤ most by omega)
        have hm : m = 1 ∨ m = 2 ∨ m = 3 := by omega
        have l3 : zs.length = 3 := by
          simp [odds] at hz
          rcases hz with rfl | rfl | rfl | rfl <;> rfl
        have ec : cutV (zs.map V.str) none (some (m : Int)) = (zs.take m).map V.str := by
          unfold cutV
          rw [HT.sIx_nat, HT.sIx_none, List.length_map, l3, List.map_take]
          have : min m 3 - 0 = m := by omega
          rw [this]
          rfl
        rw [ec]
        have hpl : Plains (zs.take m) := by
          have q := List.all_eq_true.mp odds_ok zs hz
          rw [List.all_eq_true] at q
          exact plainsB_ok (q m (by rcases hm with rfl | rfl | rfl <;> simp))
        exact k q _ _ hpl (by rw [List.length_take]; omega) (kb7.upd_new (kb7.free nq (hp7.ne nq).symm)) (kb7.free nq (hp7.ne nq).symm) upd_same ((hp7.upd (hp7.ne nq)).mono (by omega))
      have na1 := (hp1.ne n1).symm
      have na2 := (q1.ne n2).symm
      have na3 := (q2.ne n3).symm
      have na4 := (q3.ne n4).symm
      match i, hx with
      | 0, hx =>
        refine fin p1 ["cut", "is", "then"] (by simp [odds]) na1 ?_ (Option.some.inj hx).symm
        rw [off7 p1 na1]
        exact ((s2.trans s3).trans (s4.trans s5)) _ _ upd_same
      | 1, hx =>
        refine fin p2 ["athens", "over", "then"] (by simp [odds]) na2 ?_ (Option.some.inj hx).symm
        rw [off7 p2 na2]
        exact (s3.trans (s4.trans s5)) _ _ upd_same
      | 2, hx =>
        refine fin p3 ["end", "over", "under"] (by simp [odds]) na3 ?_ (Option.some.inj hx).symm
        rw [off7 p3 na3]
        exact (s4.trans s5) _ _ upd_same
      | 3, hx =>
        refine fin p4 ["back", "is", "on"] (by simp [odds]) na4 ?_ (Option.some.inj hx).symm
        rw [off7 p4 na4]
        exact s5 _ _ upd_same
      | i + 4, hx => exact absurd hx (by simp)
    · have kb1 : KeepBut a H H1 := .of_off off1
      refine ⟨_, rfl, _, rfl, _, rfl, a, n + 1, most, rfl, hp1, by omega, hm1, by omega, fun d2 H2 e0 e1 off2 hp2 => ?_⟩
      refine ⟨_, _, rfl, rfl, a, n + 2, _, rfl, hp2, by omega, by omega, by omega, fun L zs H3 hw nd hl kb3 nL eL hp3 => ?_⟩
      refine ⟨L, zs, rfl, SqL.of eL, by omega, fun ys p pm so hpn => ?_⟩
      have kb : KeepBut a H H3 := (kb1.trans (.of_off off2)).trans kb3
      refine k p ys _ ⟨so, pm.nodup_iff.mpr nd, fun z hz => hw z (pm.mem_iff.mp hz), by rw [pm.length_eq]; omega, by rw [pm.length_eq]; omega⟩ (by rw [pm.length_eq]; omega) ?_ (kb.free hpn (hp3.ne hpn).symm) upd_same ((hp3.upd (hp3.ne hpn)).mono (by omega))
      exact kb.upd_new (kb.free hpn (hp3.ne hpn).symm)
end
end K3

namespace K3
open PySem PySem.Spec PyProof.Rows L2 KT
open PySem.W (Frag)
def Ty.words : Ty → List Str
  | .w z => [z]
  | .n _ a b => a.words ++ b.words
theorem TK.of_keepBut {a : Addr} {n : Nat} {H H' : Hp} (k : KeepBut a H H') (p : PurseAt H a n) : TK H H' := fun q xs e => k q _ e fun z => by
  obtain ⟨_, _, _, _, e', _⟩ := p
  rw [z, e'] at e
  cases e
section
variable {P : Program} {w : World} {K : Frag} {mg : Str → Option Value} {base : Heap}
def spKind (d : Nat) : Sp := fun vs H Q _ => ∃ (a L : Addr) (n m : Nat) (zs : List Str), vs = [.ref a, .ref L, .int m] ∧ PurseAt H a n ∧ n + 3 * m ≤ 600000000000 ∧ L ≠ a ∧ H L = some (.lst (zs.map V.str)) ∧ Plains zs ∧ m ≤ d ∧
  ∀ (x : V) (t : Ty) (H' : Hp), TyAt H' x t → t.signs = m → (∀ z ∈ t.words, z ∈ zs) → KeepBut a H H' → PurseAt H' a (n + 3 * m + 1) → Q x H'

theorem ok_kind {f fd_ fm fw fws fo : Addr} {fd fdd fdm fdw fdws fdo : FuncData} (T : Top K mg "_law_kind" sLKind pLKind f fd) (U : TDs K mg fd_ fm fw fws fo fdd fdm fdw fdws fdo) : ∀ d : Nat, d ≤ 30 → FnOk P w K mg base CX0 (4 + d) f fd pLKind (spKind d)
  | 0, _ => by
    have B := U.B
    have TO := U.TO
    have GO : FnOk P w K mg base CX0 3 fo fdo ["purse", "some"] spOneOf := ok_oneOf U.TO U.TD U.TM U.B
    refine T.F.ok scLKind (fun vs H Q E h => ?_) (fun cdv A outer s H vs Q E hr h => ?_)
    · obtain ⟨_, _, _, _, _, rfl, _⟩ := h
      rfl
    · obtain ⟨a, L, n, m, zs, rfl, hp, hn, nLa, eL, hz, hm, k⟩ := h
      obtain rfl : m = 0 := by omega
      refine ⟨_, pss_cons (ps_if (pt_cmpR op_eq (pv 2) pe_int (nomark _)) (pss_one (ps_ret (pe_call GO hr rfl TO.g TO.F.kp TO.b .nil pass0 (pa_cons (pv 0) (pa_cons (pv 1) pa_nil))))) pss_nil) pss_never, ?_⟩
      have l1 := hz.l1
      have l3 := hz.l3
      refine ⟨_, rfl, rfl, true, rfl, iteT ⟨_, rfl, _, rfl, a, L, n, _, rfl, hp, by omega, nLa, eL, by rw [List.length_map]; exact hz.l1, by rw [List.length_map]; omega, fun i x H' hx off hp' => ?_⟩⟩
      rw [List.getElem?_map] at hx
      obtain ⟨z, hzi, rfl⟩ := Option.map_eq_some_iff.mp hx
      exact k _ (.w z) H' (.w (hz.w z (List.mem_of_getElem? hzi))) rfl (fun y hy => by rw [List.mem_singleton.mp hy]; exact List.mem_of_getElem? hzi) (.of_off off) hp'
  | d + 1, hd => by
    have B := U.B
    have TO := U.TO
    have TD := U.TD
    have GD : FnOk P w K mg base CX0 2 fd_ fdd ["purse", "many"] spDraw := ok_draw U.TD U.TM U.B
    have GO : FnOk P w K mg base CX0 3 fo fdo ["purse", "some"] spOneOf := ok_oneOf U.TO U.TD U.TM U.B
    have GK : FnOk P w K mg base CX0 (4 + d) f fd pLKind (spKind d) := ok_kind T U d (by omega)
    refine T.F.ok (k := 4 + d) scLKind (fun vs H Q E h => ?_) (fun cdv A outer s H vs Q E hr h => ?_)
    · obtain ⟨_, _, _, _, _, rfl, _⟩ := h
      rfl
    · obtain ⟨a, L, n, m, zs, rfl, hp, hn, nLa, eL, hz, hm, k⟩ := h
      have hr3 : Room 3 _ := hr.mono (by omega)
      have hr2 : Room 2 _ := hr.mono (by omega)
      refine ⟨_, (pss_cons (ps_if (pt_cmpR op_eq (pv 2) pe_int (nomark _)) (pss_one (ps_ret (pe_call GO hr3 rfl TO.g TO.F.kp TO.b .nil pass0 (pa_cons (pv 0) (pa_cons (pv 1) pa_nil))))) pss_nil)
      (pss_cons (ps_set (i := 3) scLKind.nd rfl (Or.inl rfl) (pe_call GD hr2 rfl TD.g TD.F.kp TD.b .nil pass0 (pa_cons (pv 0) (pa_cons (pv 2) pa_nil))))
      (pss_cons (ps_par (i := 4) (j := 5) rfl scLKind.nd rfl rfl (by decide) rfl rfl (pa_cons (pe_call GK hr rfl T.g T.F.kp T.b .nil pass0 (pa_cons (pv 0) (pa_cons (pv 1) (pa_cons (pv 3) pa_nil)))) (pa_cons (pe_call GK hr rfl T.g T.F.kp T.b .nil pass0 (pa_cons (pv 0) (pa_cons (pv 1) (pa_cons (pe_op op_sub (pe_op op_sub (pv 2) pe_int) (pv 3)) pa_nil)))) pa_nil)) (by rfl))
      (pss_one (ps_ret (pe_tup (pa_cons (pe_call GO hr3 rfl TO.g TO.F.kp TO.b .nil pass0 (pa_cons (pv 0) (pa_cons (pe_lst (pa_cons pe_str (pa_cons pe_str (pa_cons pe_str (pa_cons pe_str (pa_cons pe_str pa_nil)))))) pa_nil))) (pa_cons (pv 4) (pa_cons (pv 5) pa_nil))))))))), ?_⟩
      have l1 := hz.l1
      have l3 := hz.l3
      refine ⟨_, rfl, rfl, _, rfl, ite2 (fun c => ?_) (fun c => ?_)⟩
      · have e0 : (V.int (m : Int)) = V.int 0 := of_decide_eq_true c
        obtain rfl : m = 0 := by
          injection e0 with e0
          omega
        refine ⟨_, rfl, _, rfl, a, L, n, _, rfl, hp, by omega, nLa, eL, by rw [List.length_map]; exact hz.l1, by rw [List.length_map]; omega, fun i x H' hx off hp' => ?_⟩
        rw [List.getElem?_map] at hx
        obtain ⟨z, hzi, rfl⟩ := Option.map_eq_some_iff.mp hx
        exact k _ (.w z) H' (.w (hz.w z (List.mem_of_getElem? hzi))) rfl (fun y hy => by rw [List.mem_singleton.mp hy]; exact List.mem_of_getElem? hzi) (.of_off off) hp'
      · have hm0 : m ≠ 0 := fun e => c (by rw [e]; rfl)
        refine ⟨_, rfl, _, rfl, a, n, m, rfl, hp, by omega, by omega, by omega, fun d0 H1 c0 c1 off1 hp1 => ?_⟩
        obtain ⟨j, rfl⟩ := Int.eq_ofNat_of_zero_le c0
        have hj : j < m := by omega
        have kb1 : KeepBut a H H1 := .of_off off1
        refine ⟨_, rfl, _, rfl, _, rfl, a, L, n + 1, j, zs, rfl, hp1, by omega, nLa, by rw [off1 L nLa]; exact eL, hz, by omega, fun x1 t1 H2 ht1 hs1 hw1 kb2 hp2 => ?_⟩
        refine ⟨_, rfl, _, rfl, _, rfl, _, _, rfl, rfl, _, rfl, _, _, rfl, rfl, ?_⟩
        have em : (m : Int) - 1 - (j : Int) = ((m - 1 - j : Nat) : Int) := by omega
        refine ⟨a, L, n + 1 + 3 * j + 1, m - 1 - j, zs, congrArg (fun e => [V.ref a, V.ref L, V.int e]) em, hp2, by omega, nLa, kb2 _ _ (by rw [off1 L nLa]; exact eL) nLa, hz, by omega, fun x2 t2 H3 ht2 hs2 hw2 kb3 hp3 => ?_⟩
        refine ⟨_, _, rfl, ?_⟩
        have l5 : 5 ≤ sizeLine := by rw [sizeLine_eq]; omega
        have l3' : 3 ≤ sizeLine := by rw [sizeLine_eq]; omega
        refine ⟨_, rfl, l5, fun p np => ⟨a, p, n + 1 + 3 * j + 1 + 3 * (m - 1 - j) + 1, _, rfl, hp3.upd (hp3.ne np), by omega, (hp3.ne np).symm, upd_same, by show 1 ≤ 5; omega, by show 5 < 1048576; omega, fun i x H4 hx off4 hp4 => ?_⟩⟩
        have hg : ∃ g : Sg, x = .str g.str := by
          match i, hx with
          | 0, hx => exact ⟨.ov, (Option.some.inj hx).symm⟩
          | 1, hx => exact ⟨.ov, (Option.some.inj hx).symm⟩
          | 2, hx => exact ⟨.th, (Option.some.inj hx).symm⟩
          | 3, hx => exact ⟨.un, (Option.some.inj hx).symm⟩
          | 4, hx => exact ⟨.un, (Option.some.inj hx).symm⟩
          | i + 5, hx => exact absurd hx (by simp)
        obtain ⟨g, rfl⟩ := hg
        have kb4 : KeepBut a H3 H4 := (KeepBut.of_same (same_upd np)).trans (.of_off off4)
        have kbA : KeepBut a H H4 := ((kb1.trans kb2).trans kb3).trans kb4
        refine ⟨_, rfl, _, rfl, l3', fun q nq => ?_⟩
        have tk4 : TK H3 (upd H4 q (.tup [.str g.str, x1, x2])) := (TK.of_keepBut kb4 hp3).trans (TK.upd_new nq)
        have tk3 : TK H2 (upd H4 q (.tup [.str g.str, x1, x2])) := (TK.of_keepBut kb3 hp2).trans tk4
        refine k _ (.n g t1 t2) _ (.n upd_same (ht1.mono tk3) (ht2.mono tk4)) ?_ ?_ (kbA.upd_new (kbA.free nq (hp4.ne nq).symm)) ((hp4.upd (hp4.ne nq)).mono (by omega))
        · show 1 + t1.signs + t2.signs = m
          omega
        · intro z hz'
          exact (List.mem_append.mp hz').elim (hw1 z) (hw2 z)

theorem ok_freeKind {f fd_ fm fw fws fo : Addr} {fd fdd fdm fdw fdws fdo : FuncData} (T : Top K mg "_law_free_kind" sLFreeKind pLFreeKind f fd) (U : TDs K mg fd_ fm fw fws fo fdd fdm fdw fdws fdo) : ∀ d : Nat, d ≤ 30 → FnOk P w K mg base CX0 (4 + d) f fd pLFreeKind (spKind d)
  | 0, _ => by
    have B := U.B
    have TO := U.TO
    have GO : FnOk P w K mg base CX0 3 fo fdo ["purse", "some"] spOneOf := ok_oneOf U.TO U.TD U.TM U.B
    refine T.F.ok scLFreeKind (fun vs H Q E h => ?_) (fun cdv A outer s H vs Q E hr h => ?_)
    · obtain ⟨_, _, _, _, _, rfl, _⟩ := h
      rfl
    · obtain ⟨a, L, n, m, zs, rfl, hp, hn, nLa, eL, hz, hm, k⟩ := h
      obtain rfl : m = 0 := by omega
      refine ⟨_, pss_cons (ps_if (pt_cmpR op_eq (pv 2) pe_int (nomark _)) (pss_one (ps_ret (pe_call GO hr rfl TO.g TO.F.kp TO.b .nil pass0 (pa_cons (pv 0) (pa_cons (pv 1) pa_nil))))) pss_nil) pss_never, ?_⟩
      have l1 := hz.l1
      have l3 := hz.l3
      refine ⟨_, rfl, rfl, true, rfl, iteT ⟨_, rfl, _, rfl, a, L, n, _, rfl, hp, by omega, nLa, eL, by rw [List.length_map]; exact hz.l1, by rw [List.length_map]; omega, fun i x H' hx off hp' => ?_⟩⟩
      rw [List.getElem?_map] at hx
      obtain ⟨z, hzi, rfl⟩ := Option.map_eq_some_iff.mp hx
      exact k _ (.w z) H' (.w (hz.w z (List.mem_of_getElem? hzi))) rfl (fun y hy => by rw [List.mem_singleton.mp hy]; exact List.mem_of_getElem? hzi) (.of_off off) hp'
  | d + 1, hd => by
    have B := U.B
    have TO := U.TO
    have TD := U.TD
    have GD : FnOk P w K mg base CX0 2 fd_ fdd ["purse", "many"] spDraw := ok_draw U.TD U.TM U.B
    have GO : FnOk P w K mg base CX0 3 fo fdo ["purse", "some"] spOneOf := ok_oneOf U.TO U.TD U.TM U.B
    have GK : FnOk P w K mg base CX0 (4 + d) f fd pLFreeKind (spKind d) := ok_freeKind T U d (by omega)
    refine T.F.ok (k := 4 + d) scLFreeKind (fun vs H Q E h => ?_) (fun cdv A outer s H vs Q E hr h => ?_)
    · obtain ⟨_, _, _, _, _, rfl, _⟩ := h
      rfl
    · obtain ⟨a, L, n, m, zs, rfl, hp, hn, nLa, eL, hz, hm, k⟩ := h
      have hr3 : Room 3 _ := hr.mono (by omega)
      have hr2 : Room 2 _ := hr.mono (by omega)
      refine ⟨_, (pss_cons (ps_if (pt_cmpR op_eq (pv 2) pe_int (nomark _)) (pss_one (ps_ret (pe_call GO hr3 rfl TO.g TO.F.kp TO.b .nil pass0 (pa_cons (pv 0) (pa_cons (pv 1) pa_nil))))) pss_nil)
      (pss_cons (ps_set (i := 3) scLFreeKind.nd rfl (Or.inl rfl) (pe_call GD hr2 rfl TD.g TD.F.kp TD.b .nil pass0 (pa_cons (pv 0) (pa_cons (pv 2) pa_nil))))
      (pss_cons (ps_par (i := 4) (j := 5) rfl scLFreeKind.nd rfl rfl (by decide) rfl rfl (pa_cons (pe_call GK hr rfl T.g T.F.kp T.b .nil pass0 (pa_cons (pv 0) (pa_cons (pv 1) (pa_cons (pv 3) pa_nil)))) (pa_cons (pe_call GK hr rfl T.g T.F.kp T.b .nil pass0 (pa_cons (pv 0) (pa_cons (pv 1) (pa_cons (pe_op op_sub (pe_op op_sub (pv 2) pe_int) (pv 3)) pa_nil)))) pa_nil)) (by rfl))
      (pss_one (ps_ret (pe_tup (pa_cons (pe_call GO hr3 rfl TO.g TO.F.kp TO.b .nil pass0 (pa_cons (pv 0) (pa_cons (pe_lst (pa_cons pe_str (pa_cons pe_str pa_nil))) pa_nil))) (pa_cons (pv 4) (pa_cons (pv 5) pa_nil))))))))), ?_⟩
      have l1 := hz.l1
      have l3 := hz.l3
      refine ⟨_, rfl, rfl, _, rfl, ite2 (fun c => ?_) (fun c => ?_)⟩
      · have e0 : (V.int (m : Int)) = V.int 0 := of_decide_eq_true c
        obtain rfl : m = 0 := by
          injection e0 with e0
          omega
        refine ⟨_, rfl, _, rfl, a, L, n, _, rfl, hp, by omega, nLa, eL, by rw [List.length_map]; exact hz.l1, by rw [List.length_map]; omega, fun i x H' hx off hp' => ?_⟩
        rw [List.getElem?_map] at hx
        obtain ⟨z, hzi, rfl⟩ := Option.map_eq_some_iff.mp hx
        exact k _ (.w z) H' (.w (hz.w z (List.mem_of_getElem? hzi))) rfl (fun y hy => by rw [List.mem_singleton.mp hy]; exact List.mem_of_getElem? hzi) (.of_off off) hp'
      · have hm0 : m ≠ 0 := fun e => c (by rw [e]; rfl)
        refine ⟨_, rfl, _, rfl, a, n, m, rfl, hp, by omega, by omega, by omega, fun d0 H1 c0 c1 off1 hp1 => ?_⟩
        obtain ⟨j, rfl⟩ := Int.eq_ofNat_of_zero_le c0
        have hj : j < m := by omega
        have kb1 : KeepBut a H H1 := .of_off off1
        refine ⟨_, rfl, _, rfl, _, rfl, a, L, n + 1, j, zs, rfl, hp1, by omega, nLa, by rw [off1 L nLa]; exact eL, hz, by omega, fun x1 t1 H2 ht1 hs1 hw1 kb2 hp2 => ?_⟩
        refine ⟨_, rfl, _, rfl, _, rfl, _, _, rfl, rfl, _, rfl, _, _, rfl, rfl, ?_⟩
        have em : (m : Int) - 1 - (j : Int) = ((m - 1 - j : Nat) : Int) := by omega
        refine ⟨a, L, n + 1 + 3 * j + 1, m - 1 - j, zs, congrArg (fun e => [V.ref a, V.ref L, V.int e]) em, hp2, by omega, nLa, kb2 _ _ (by rw [off1 L nLa]; exact eL) nLa, hz, by omega, fun x2 t2 H3 ht2 hs2 hw2 kb3 hp3 => ?_⟩
        refine ⟨_, _, rfl, ?_⟩
        have l5 : 2 ≤ sizeLine := by rw [sizeLine_eq]; omega
        have l3' : 3 ≤ sizeLine := by rw [sizeLine_eq]; omega
        refine ⟨_, rfl, l5, fun p np => ⟨a, p, n + 1 + 3 * j + 1 + 3 * (m - 1 - j) + 1, _, rfl, hp3.upd (hp3.ne np), by omega, (hp3.ne np).symm, upd_same, by show 1 ≤ 2; omega, by show 2 < 1048576; omega, fun i x H4 hx off4 hp4 => ?_⟩⟩
        have hg : ∃ g : Sg, x = .str g.str := by
          match i, hx with
          | 0, hx => exact ⟨.ov, (Option.some.inj hx).symm⟩
          | 1, hx => exact ⟨.un, (Option.some.inj hx).symm⟩
          | i + 2, hx => exact absurd hx (by simp)
        obtain ⟨g, rfl⟩ := hg
        have kb4 : KeepBut a H3 H4 := (KeepBut.of_same (same_upd np)).trans (.of_off off4)
        have kbA : KeepBut a H H4 := ((kb1.trans kb2).trans kb3).trans kb4
        refine ⟨_, rfl, _, rfl, l3', fun q nq => ?_⟩
        have tk4 : TK H3 (upd H4 q (.tup [.str g.str, x1, x2])) := (TK.of_keepBut kb4 hp3).trans (TK.upd_new nq)
        have tk3 : TK H2 (upd H4 q (.tup [.str g.str, x1, x2])) := (TK.of_keepBut kb3 hp2).trans tk4
        refine k _ (.n g t1 t2) _ (.n upd_same (ht1.mono tk3) (ht2.mono tk4)) ?_ ?_ (kbA.upd_new (kbA.free nq (hp4.ne nq).symm)) ((hp4.upd (hp4.ne nq)).mono (by omega))
        · show 1 + t1.signs + t2.signs = m
          omega
        · intro z hz'
          exact (List.mem_append.mp hz').elim (hw1 z) (hw2 z)

end
end K3

namespace K3
open PySem PySem.Spec PyProof.Rows L2 KT
open PySem.W (Frag)
theorem pe_never {X : Cx} {e : Expr} : PE X e (fun _ _ _ => False) := ⟨fun _ _ _ _ _ _ h => h.elim⟩
theorem Ty.words_len (t : Ty) : t.words.length = t.signs + 1 := by
  induction t with
  | w _ => rfl
  | n g a b i j => simp only [Ty.words, Ty.signs, List.length_append]; omega
section
variable {P : Program} {w : World} {K : Frag} {mg : Str → Option Value} {base : Heap}
def spPlainList (d : Nat) : Sp := fun vs H Q _ => ∃ v t, vs = [v] ∧ TyAt H v t ∧ t.signs ≤ d ∧ ∀ L H', Same H H' → H L = none → H' L = some (.lst (t.words.map V.str)) → Q (.ref L) H'
theorem ok_plainList {f : Addr} {fd : FuncData} (T : Top K mg "_law_plain_list" sLPlainList pLPlainList f fd) (B : Blt mg) : ∀ d : Nat, d ≤ 30 → FnOk P w K mg base CX0 (1 + d) f fd pLPlainList (spPlainList d)
  | 0, _ => by
    refine T.F.ok scLPlainList (fun vs H Q E h => ?_) (fun cdv A outer s H vs Q E hr h => ?_)
    · obtain ⟨_, _, rfl, _⟩ := h
      rfl
    · obtain ⟨v, t, rfl, ht, hd, k⟩ := h
      refine ⟨_, (pss_one (ps_ret (pe_ifExp (pt_val (pe_callB call_isi (by rfl) B.isi (by decide +kernel) (pa_cons (pv 0) (pa_cons (pe_bltn (v := .ty "str") (by rfl) B.str_ (by decide +kernel) rfl) pa_nil)))) (pe_lst (pa_cons (pv 0) pa_nil)) pe_never))), ?_⟩
      cases ht with
      | @w z h => exact ⟨_, rfl, _, _, _, _, true, rfl, .ty "str", .base (.str z), kit_ty (by decide +kernel), true, rfl, iteT ⟨_, rfl, by show 1 ≤ sizeLine; rw [sizeLine_eq]; omega, fun p hp => k p _ (same_upd hp) hp upd_same⟩⟩
      | @n p g x y a b e h1 h2 =>
        simp only [Ty.signs] at hd
        omega
  | d + 1, hd => by
    have GP : FnOk P w K mg base CX0 (1 + d) f fd pLPlainList (spPlainList d) := ok_plainList T B d (by omega)
    refine T.F.ok (k := 1 + d) scLPlainList (fun vs H Q E h => ?_) (fun cdv A outer s H vs Q E hr h => ?_)
    · obtain ⟨_, _, rfl, _⟩ := h
      rfl
    · obtain ⟨v, t, rfl, ht, hd', k⟩ := h
      refine ⟨_, (pss_one (ps_ret (pe_ifExp (pt_val (pe_callB call_isi (by rfl) B.isi (by decide +kernel) (pa_cons (pv 0) (pa_cons (pe_bltn (v := .ty "str") (by rfl) B.str_ (by decide +kernel) rfl) pa_nil)))) (pe_lst (pa_cons (pv 0) pa_nil)) (pe_op op_cat (pe_call GP hr rfl T.g T.F.kp T.b .nil pass0 (pa_cons (pe_ix ix_tup (pv 0) pe_int (fun _ _ => rfl)) pa_nil)) (pe_call GP hr rfl T.g T.F.kp T.b .nil pass0 (pa_cons (pe_ix ix_tup (pv 0) pe_int (fun _ _ => rfl)) pa_nil)))))), ?_⟩
      cases ht with
      | @w z h => exact ⟨_, rfl, _, _, _, _, true, rfl, .ty "str", .base (.str z), kit_ty (by decide +kernel), true, rfl, iteT ⟨_, rfl, by show 1 ≤ sizeLine; rw [sizeLine_eq]; omega, fun p hp => k p _ (same_upd hp) hp upd_same⟩⟩
      | @n p g x y a b e h1 h2 =>
        simp only [Ty.signs] at hd'
        refine ⟨_, rfl, _, _, _, _, false, rfl, .ty "str", .base (.tup e), kit_ty (by decide +kernel), false, rfl, iteF ?_⟩
        refine ⟨_, rfl, p, _, _, _, rfl, rfl, SqT.of e, atI_nat (j := 1) rfl, x, a, rfl, h1, by omega, fun L1 H1 s1 n1 e1 => ?_⟩
        refine ⟨_, rfl, p, _, _, _, rfl, rfl, SqT.of (s1 _ _ e), atI_nat (j := 2) rfl, y, b, rfl, h2.mono (TK.of_same s1), by omega, fun L2 H2 s2 n2 e2 => ?_⟩
        refine ⟨L1, L2, _, _, rfl, rfl, s2 _ _ e1, e2, by rw [List.length_map, List.length_map, Ty.words_len, Ty.words_len, sizeLine_eq]; omega, fun q nq => ?_⟩
        exact k q _ ((s1.trans s2).trans (same_upd nq)) ((s1.trans s2).free nq) (by rw [upd_same, ← List.map_append]; rfl)
def spLTurned (d : Nat) : Sp := fun vs H Q _ => ∃ v t, vs = [v] ∧ TyAt H v t ∧ t.signs ≤ d ∧ ∀ v' H', Same H H' → TyAt H' v' t.turned → Q v' H'
def turnKvs : List (Key × V) := [(Sum.inr "over", .str "under"), (Sum.inr "under", .str "over"), (Sum.inr "then", .str "then")]
theorem turn_get (g : Sg) : valV (mergeK [] turnKvs) (Sum.inr g.str) = some (.str g.turn.str) := by cases g <;> decide +kernel
theorem ok_lturned {f : Addr} {fd : FuncData} (T : Top K mg "_law_turned" sLTurned pLTurned f fd) (B : Blt mg) : ∀ d : Nat, d ≤ 30 → FnOk P w K mg base CX0 (1 + d) f fd pLTurned (spLTurned d)
  | 0, _ => by
    refine T.F.ok scLTurned (fun vs H Q E h => ?_) (fun cdv A outer s H vs Q E hr h => ?_)
    · obtain ⟨_, _, rfl, _⟩ := h
      rfl
    · obtain ⟨v, t, rfl, ht, hd, k⟩ := h
      refine ⟨_, pss_cons (ps_if (pt_val (pe_callB call_isi (by rfl) B.isi (by decide +kernel) (pa_cons (pv 0) (pa_cons (pe_bltn (v := .ty "str") (by rfl) B.str_ (by decide +kernel) rfl) pa_nil)))) (pss_one (ps_ret (pv 0))) pss_nil) pss_never, ?_⟩
      cases ht with
      | @w z h => exact ⟨_, rfl, _, _, _, _, true, rfl, .ty "str", .base (.str z), kit_ty (by decide +kernel), true, rfl, iteT ⟨_, rfl, k _ H (Same.refl H) (.w h)⟩⟩
      | @n p g x y a b e h1 h2 =>
        simp only [Ty.signs] at hd
        omega
  | d + 1, hd => by
    have GP : FnOk P w K mg base CX0 (1 + d) f fd pLTurned (spLTurned d) := ok_lturned T B d (by omega)
    refine T.F.ok (k := 1 + d) scLTurned (fun vs H Q E h => ?_) (fun cdv A outer s H vs Q E hr h => ?_)
    · obtain ⟨_, _, rfl, _⟩ := h
      rfl
    · obtain ⟨v, t, rfl, ht, hd', k⟩ := h
      have hu := hu_of hr
      refine ⟨_, (pss_cons (ps_if (pt_val (pe_callB call_isi (by rfl) B.isi (by decide +kernel) (pa_cons (pv 0) (pa_cons (pe_bltn (v := .ty "str") (by rfl) B.str_ (by decide +kernel) rfl) pa_nil)))) (pss_one (ps_ret (pv 0))) pss_nil)
      (pss_one (ps_ret (pe_tup (pa_cons (pe_dget hu (pe_disp (pps_cons pe_str pe_str (pps_cons pe_str pe_str (pps_cons pe_str pe_str pps_nil))) (by rfl) (by rfl) (fun z => by cases z) (by decide)) (pe_ix ix_tup (pv 0) pe_int (fun _ _ => rfl)) (fun _ _ => rfl)) (pa_cons (pe_call GP hr rfl T.g T.F.kp T.b .nil pass0 (pa_cons (pe_ix ix_tup (pv 0) pe_int (fun _ _ => rfl)) pa_nil)) (pa_cons (pe_call GP hr rfl T.g T.F.kp T.b .nil pass0 (pa_cons (pe_ix ix_tup (pv 0) pe_int (fun _ _ => rfl)) pa_nil)) pa_nil))))))), ?_⟩
      cases ht with
      | @w z h => exact ⟨_, rfl, _, _, _, _, true, rfl, .ty "str", .base (.str z), kit_ty (by decide +kernel), true, rfl, iteT ⟨_, rfl, k _ H (Same.refl H) (.w h)⟩⟩
      | @n p g x y a b e h1 h2 =>
        simp only [Ty.signs] at hd'
        refine ⟨_, rfl, _, _, _, _, false, rfl, .ty "str", .base (.tup e), kit_ty (by decide +kernel), false, rfl, iteF ?_⟩
        refine fun q nq => ⟨upd_same, turnKvs, rfl, by decide, ?_⟩
        rw [upd_upd]
        have s1 : Same H (upd H q (.dK (mergeK [] turnKvs))) := same_upd nq
        refine ⟨_, rfl, p, _, _, _, rfl, rfl, SqT.of (s1 _ _ e), atI_nat (j := 0) rfl, q, .str g.turn.str, rfl, ?_, ?_⟩
        · have g1 := DGet.k (k := Sum.inr g.str) (show upd H q (.dK (mergeK [] turnKvs)) q = some (.dK (mergeK [] turnKvs)) from upd_same)
          rw [turn_get] at g1
          exact g1
        · refine ⟨_, rfl, p, _, _, _, rfl, rfl, SqT.of (s1 _ _ e), atI_nat (j := 2) rfl, y, b, rfl, h2.mono (TK.of_same s1), by omega, fun y' H2 s2 hy' => ?_⟩
          refine ⟨_, rfl, p, _, _, _, rfl, rfl, SqT.of (s2 _ _ (s1 _ _ e)), atI_nat (j := 1) rfl, x, a, rfl, h1.mono ((TK.of_same s1).trans (TK.of_same s2)), by omega, fun x' H3 s3 hx' => ?_⟩
          refine ⟨by show 3 ≤ sizeLine; rw [sizeLine_eq]; omega, fun r nr => ?_⟩
          exact k _ _ (((s1.trans s2).trans s3).trans (same_upd nr)) (.n upd_same (hy'.mono ((TK.of_same s3).trans (TK.upd_new nr))) (hx'.mono (TK.upd_new nr)))
def Ty.text : Ty → Str
  | .w z => z
  | .n g a b => ("(" : Str) ++ g.str ++ (" " : Str) ++ a.text ++ (" " : Str) ++ b.text ++ (")" : Str)
def Ty.wOk : Ty → Prop
  | .w z => IsW z
  | .n _ a b => a.wOk ∧ b.wOk
theorem TyAt.wOk {H : Hp} {v : V} {t : Ty} (h : TyAt H v t) : t.wOk := by
  induction h with
  | w h => exact h
  | n _ _ _ i j => exact ⟨i, j⟩
theorem Sg.len (g : Sg) : g.str.length ≤ 5 := by cases g <;> decide
theorem Ty.text_len (t : Ty) (h : t.wOk) : t.text.length ≤ 20 * t.signs + 8 := by
  induction t with
  | w z => exact h.2.1
  | n g a b i j =>
    have i := i h.1
    have j := j h.2
    have := g.len
    simp only [Ty.text, strLen_append, Ty.signs]
    have e1 : (("(" : Str)).length = 1 := rfl
    have e2 : ((" " : Str)).length = 1 := rfl
    have e3 : ((")" : Str)).length = 1 := rfl
    omega
def spText (d : Nat) : Sp := fun vs H Q _ => ∃ v t, vs = [v] ∧ TyAt H v t ∧ t.signs ≤ d ∧ Q (.str t.text) H
theorem ok_text {f : Addr} {fd : FuncData} (T : Top K mg "_law_text" sLText pLText f fd) (B : Blt mg) : ∀ d : Nat, d ≤ 30 → FnOk P w K mg base CX0 (1 + d) f fd pLText (spText d)
  | 0, _ => by
    refine T.F.ok scLText (fun vs H Q E h => ?_) (fun cdv A outer s H vs Q E hr h => ?_)
    · obtain ⟨_, _, rfl, _⟩ := h
      rfl
    · obtain ⟨v, t, rfl, ht, hd, k⟩ := h
      refine ⟨_, (pss_one (ps_ret (pe_ifExp (pt_val (pe_callB call_isi (by rfl) B.isi (by decide +kernel) (pa_cons (pv 0) (pa_cons (pe_bltn (v := .ty "str") (by rfl) B.str_ (by decide +kernel) rfl) pa_nil)))) (pv 0) pe_never))), ?_⟩
      cases ht with
      | @w z h => exact ⟨_, rfl, _, _, _, _, true, rfl, .ty "str", .base (.str z), kit_ty (by decide +kernel), true, rfl, iteT ⟨_, rfl, k⟩⟩
      | @n p g x y a b e h1 h2 =>
        simp only [Ty.signs] at hd
        omega
  | d + 1, hd => by
    have GP : FnOk P w K mg base CX0 (1 + d) f fd pLText (spText d) := ok_text T B d (by omega)
    refine T.F.ok (k := 1 + d) scLText (fun vs H Q E h => ?_) (fun cdv A outer s H vs Q E hr h => ?_)
    · obtain ⟨_, _, rfl, _⟩ := h
      rfl
    · obtain ⟨v, t, rfl, ht, hd', k⟩ := h
      refine ⟨_, (pss_one (ps_ret (pe_ifExp (pt_val (pe_callB call_isi (by rfl) B.isi (by decide +kernel) (pa_cons (pv 0) (pa_cons (pe_bltn (v := .ty "str") (by rfl) B.str_ (by decide +kernel) rfl) pa_nil)))) (pv 0) (pe_op op_add_str (pe_op op_add_str (pe_op op_add_str (pe_op op_add_str (pe_op op_add_str (pe_op op_add_str pe_str (pe_ix ix_tup (pv 0) pe_int (fun _ _ => rfl))) pe_str) (pe_call GP hr rfl T.g T.F.kp T.b .nil pass0 (pa_cons (pe_ix ix_tup (pv 0) pe_int (fun _ _ => rfl)) pa_nil))) pe_str) (pe_call GP hr rfl T.g T.F.kp T.b .nil pass0 (pa_cons (pe_ix ix_tup (pv 0) pe_int (fun _ _ => rfl)) pa_nil))) pe_str)))), ?_⟩
      cases ht with
      | @w z h => exact ⟨_, rfl, _, _, _, _, true, rfl, .ty "str", .base (.str z), kit_ty (by decide +kernel), true, rfl, iteT ⟨_, rfl, k⟩⟩
      | @n p g x y a b e h1 h2 =>
        simp only [Ty.signs] at hd'
        have la := a.text_len h1.wOk
        have lb := b.text_len h2.wOk
        have lg := g.len
        have e1 : (("(" : Str)).length = 1 := rfl
        have e2 : ((" " : Str)).length = 1 := rfl
        have e3 : ((")" : Str)).length = 1 := rfl
        refine ⟨_, rfl, _, _, _, _, false, rfl, .ty "str", .base (.tup e), kit_ty (by decide +kernel), false, rfl, iteF ?_⟩
        refine ⟨_, rfl, p, _, _, _, rfl, rfl, SqT.of e, atI_nat (j := 0) rfl, _, _, rfl, rfl, by rw [sizeLine_eq]; omega, _, _, rfl, rfl, by simp only [strLen_append]; rw [sizeLine_eq]; omega, ?_⟩
        refine ⟨_, rfl, p, _, _, _, rfl, rfl, SqT.of e, atI_nat (j := 1) rfl, x, a, rfl, h1, by omega, _, _, rfl, rfl, by simp only [strLen_append]; rw [sizeLine_eq]; omega, _, _, rfl, rfl, by simp only [strLen_append]; rw [sizeLine_eq]; omega, ?_⟩
        refine ⟨_, rfl, p, _, _, _, rfl, rfl, SqT.of e, atI_nat (j := 2) rfl, y, b, rfl, h2, by omega, _, _, rfl, rfl, by simp only [strLen_append]; rw [sizeLine_eq]; omega, _, _, rfl, rfl, by simp only [strLen_append]; rw [sizeLine_eq]; omega, ?_⟩
        exact k
end
end K3

namespace K3
open PySem PySem.Spec PyProof.Rows L2 KT
open PySem.W (Frag)
/-- a number, a truth value, a text -/
inductive Scl : V → Prop
  | i (n : Int) : Scl (.int n)
  | b (x : Bool) : Scl (.bl x)
  | s (z : Str) : Scl (.str z)
/-- equal data, to the depth k -/
def SameDt (H : Hp) : Nat → V → V → Prop
  | 0, v, v' => v' = v ∧ Scl v
  | k + 1, v, v' => (v' = v ∧ Scl v) ∨ ∃ a a' xs ys, v = .ref a ∧ v' = .ref a' ∧ ((H a = some (.lst xs) ∧ H a' = some (.lst ys)) ∨ (H a = some (.tup xs) ∧ H a' = some (.tup ys))) ∧ xs.length = ys.length ∧ xs.length ≤ 1000000 ∧
    ∀ (i : Nat) (x y : V), xs[i]? = some x → ys[i]? = some y → SameDt H k x y
theorem SameDt.mono {H H' : Hp} (s : Same H H') : ∀ {k : Nat} {v v' : V}, SameDt H k v v' → SameDt H' k v v'
  | 0, _, _, h => h
  | k + 1, _, _, h => by
    rcases h with h | ⟨a, a', xs, ys, e1, e2, h, hl, hm, hx⟩
    · exact .inl h
    · exact .inr ⟨a, a', xs, ys, e1, e2, h.imp (fun q => ⟨s _ _ q.1, s _ _ q.2⟩) fun q => ⟨s _ _ q.1, s _ _ q.2⟩, hl, hm, fun i x y h1 h2 => (hx i x y h1 h2).mono s⟩
theorem SameDt.up {H : Hp} : ∀ {k : Nat} {v v' : V}, SameDt H k v v' → SameDt H (k + 1) v v'
  | 0, _, _, h => .inl h
  | k + 1, _, _, h => by
    rcases h with h | ⟨a, a', xs, ys, e1, e2, h, hl, hm, hx⟩
    · exact .inl h
    · exact .inr ⟨a, a', xs, ys, e1, e2, h, hl, hm, fun i x y h1 h2 => (hx i x y h1 h2).up⟩
theorem SameDt.le {H : Hp} {k j : Nat} {v v' : V} (h : SameDt H k v v') (l : k ≤ j) : SameDt H j v v' := by
  induction j with
  | zero => obtain rfl : k = 0 := by omega
            exact h
  | succ j ih =>
    by_cases e : k = j + 1
    · rw [← e]; exact h
    · exact (ih (by omega)).up
theorem SameDt.scl {H : Hp} {k : Nat} {v : V} (h : Scl v) : SameDt H k v v := by
  cases k
  · exact ⟨rfl, h⟩
  · exact .inl ⟨rfl, h⟩
theorem SameDt.ty {H : Hp} {v v' : V} {t : Ty} (h : TyAt H v t) : TyAt H v' t → SameDt H t.signs v v' := by
  induction h generalizing v' with
  | w h =>
    intro h'
    cases h'
    exact ⟨rfl, .s _⟩
  | @n p g x y a b e h1 h2 i j =>
    intro h'
    cases h' with
    | @n p' _ x' y' _ _ e' k1 k2 =>
      have q : SameDt H (a.signs + b.signs + 1) (.ref p) (.ref p') := by
        refine .inr ⟨p, p', _, _, rfl, rfl, .inr ⟨e, e'⟩, rfl, by show 3 ≤ 1000000; omega, fun i' u u' h3 h4 => ?_⟩
        match i', h3, h4 with
        | 0, h3, h4 =>
          obtain rfl := Option.some.inj h3
          obtain rfl := Option.some.inj h4
          exact .scl (.s _)
        | 1, h3, h4 =>
          obtain rfl := Option.some.inj h3
          obtain rfl := Option.some.inj h4
          exact (i k1).le (by omega)
        | 2, h3, h4 =>
          obtain rfl := Option.some.inj h3
          obtain rfl := Option.some.inj h4
          exact (j k2).le (by omega)
        | n + 3, h3, h4 => exact absurd h3 (by simp)
      exact q.le (by simp only [Ty.signs]; omega)
theorem walk_zipT {K : Frag} {a b : Addr} {xs ys : List V} {n : Nat} (hn : n = min xs.length ys.length) : Walk (RZ.ItzT K a b) n (fun H => SqT K H a xs ∧ SqT K H b ys) (YPair (fun i => xs[i]?) (fun i => ys[i]?)) := by
  subst hn
  refine ⟨fun i _ hi q => ?_, fun _ q => ⟨xs, ys, q.1, q.2, by omega⟩, fun i H v H' _ q y => ?_⟩
  · have h1 : i < xs.length := by omega
    have h2 : i < ys.length := by omega
    exact ⟨xs, ys, xs[i], ys[i], q.1, q.2, by simp [h1], by simp [h2]⟩
  · obtain ⟨T, x, z, h1, h2, h3, h4, h5⟩ := y
    exact ⟨T, x, z, h1, h2, h3, h4 xs q.1, h5 ys q.2⟩
section
variable {P : Program} {w : World} {K : Frag} {mg : Str → Option Value} {base : Heap}
def spExact (d : Nat) : Sp := fun vs H Q _ => ∃ v v', vs = [v, v'] ∧ SameDt H d v v' ∧ ∀ H', Same H H' → Q (.bl true) H'
theorem scl_ty {v : V} (h : Scl v) : ∃ (c : String) (bi bb : Bool), (∀ H, TyX K H v (.type c)) ∧ PySem.W.kitAny K (.type c) [.type "list", .type "tuple"] = some false ∧ PySem.W.kitOne K (.type c) (.type "dict") = some false ∧
    PySem.W.kitOne K (.type c) (.type "int") = some bi ∧ PySem.W.kitOne K (.type c) (.type "bool") = some bb ∧ scal v v = true := by
  have f2 : ∀ c : String, kitB c "list" = some false → kitB c "tuple" = some false → PySem.W.kitAny K (.type c) [.type "list", .type "tuple"] = some false := by
    intro c h1 h2
    exact kitAny_cons (kit_ty h1) (fun _ => kitAny_cons (kit_ty h2) (fun _ => kitAny_nil) (fun z => by cases z)) (fun z => by cases z)
  cases h with
  | i n => exact ⟨"int", true, false, fun _ => .base (.int n), f2 _ (by decide +kernel) (by decide +kernel), kit_ty (by decide +kernel), kit_ty (by decide +kernel), kit_ty (by decide +kernel), rfl⟩
  | b x => exact ⟨"bool", true, true, fun _ => .base (.bl x), f2 _ (by decide +kernel) (by decide +kernel), kit_ty (by decide +kernel), kit_ty (by decide +kernel), kit_ty (by decide +kernel), rfl⟩
  | s z => exact ⟨"str", false, false, fun _ => .base (.str z), f2 _ (by decide +kernel) (by decide +kernel), kit_ty (by decide +kernel), kit_ty (by decide +kernel), kit_ty (by decide +kernel), rfl⟩
theorem ok_exact {f : Addr} {fd : FuncData} (T : Top K mg "_law_exact" sLExact pLExact f fd) (B : Blt mg) : ∀ d : Nat, d ≤ 60 → FnOk P w K mg base CX0 (1 + d) f fd pLExact (spExact d)
  | 0, _ => by
    refine T.F.ok scLExact (fun vs H Q E h => ?_) (fun cdv A outer s H vs Q E hr h => ?_)
    · obtain ⟨_, _, rfl, _⟩ := h
      rfl
    · obtain ⟨v, v', rfl, ⟨rfl, hs⟩, k⟩ := h
      refine ⟨_, (pss_cons (ps_if (pt_val (pe_callB call_isiT (by rfl) B.isi (by decide +kernel) (pa_cons (pv 0) (pa_cons (pe_tup (pa_cons (pe_bltn (v := .ty "list") (by rfl) B.list (by decide +kernel) rfl) (pa_cons (pe_bltn (v := .ty "tuple") (by rfl) B.tuple (by decide +kernel) rfl) pa_nil))) pa_nil)))) pss_never pss_nil)
      (pss_cons (ps_if (pt_val (pe_callB call_isi (by rfl) B.isi (by decide +kernel) (pa_cons (pv 0) (pa_cons (pe_bltn (v := .ty "dict") (by rfl) B.dict (by decide +kernel) rfl) pa_nil)))) pss_never pss_nil)
      (pss_cons (ps_set (i := 2) scLExact.nd rfl (Or.inl rfl) (pe_cmpR op_eq (pe_callB call_isi (by rfl) B.isi (by decide +kernel) (pa_cons (pv 0) (pa_cons (pe_bltn (v := .ty "int") (by rfl) B.int (by decide +kernel) rfl) pa_nil))) (pe_callB call_isi (by rfl) B.isi (by decide +kernel) (pa_cons (pv 1) (pa_cons (pe_bltn (v := .ty "int") (by rfl) B.int (by decide +kernel) rfl) pa_nil))) (nomark _)))
      (pss_one (ps_ret (pe_and (pv 2) (pe_and (pe_cmpR op_eq (pe_callB call_isi (by rfl) B.isi (by decide +kernel) (pa_cons (pv 0) (pa_cons (pe_bltn (v := .ty "bool") (by rfl) B.bool_ (by decide +kernel) rfl) pa_nil))) (pe_callB call_isi (by rfl) B.isi (by decide +kernel) (pa_cons (pv 1) (pa_cons (pe_bltn (v := .ty "bool") (by rfl) B.bool_ (by decide +kernel) rfl) pa_nil))) (nomark _)) (pe_one (pe_cmpR op_eq (pv 0) (pv 1) (nomark _)))))))))), ?_⟩
      obtain ⟨c, bi, bb, ty, k1, k2, k3, k4, sc⟩ := scl_ty (K := K) hs
      refine ⟨v', rfl, by show 2 ≤ sizeLine; rw [sizeLine_eq]; omega, fun p hp => ⟨v', p, _, _, _, false, rfl, upd_same, .cons (.ty "list") (.cons (.ty "tuple") .nil), ty _, k1, false, rfl, iteF ?_⟩⟩
      refine ⟨_, rfl, _, _, _, _, false, rfl, .ty "dict", ty _, k2, false, rfl, iteF ?_⟩
      refine ⟨_, rfl, _, _, _, _, bi, rfl, .ty "int", ty _, k3, _, rfl, _, _, _, _, bi, rfl, .ty "int", ty _, k3, rfl, ?_⟩
      refine ⟨_, rfl, true, congrArg V.bl (decide_eq_true rfl), ?_⟩
      refine ⟨_, rfl, _, _, _, _, bb, rfl, .ty "bool", ty _, k4, _, rfl, _, _, _, _, bb, rfl, .ty "bool", ty _, k4, rfl, true, congrArg V.bl (decide_eq_true rfl), ?_⟩
      refine ⟨_, rfl, _, rfl, sc, ?_⟩
      have e : decide (v' = v') = true := decide_eq_true rfl
      rw [e]
      exact k _ (same_upd hp)
  | d + 1, hd => by
    have GE : FnOk P w K mg base CX0 (1 + d) f fd pLExact (spExact d) := ok_exact T B d (by omega)
    refine T.F.ok (k := 1 + d) scLExact (fun vs H Q E h => ?_) (fun cdv A outer s H vs Q E hr h => ?_)
    · obtain ⟨_, _, rfl, _⟩ := h
      rfl
    · obtain ⟨v, v', rfl, hd', k⟩ := h
      refine ⟨_, (pss_cons (ps_if (pt_val (pe_callB call_isiT (by rfl) B.isi (by decide +kernel) (pa_cons (pv 0) (pa_cons (pe_tup (pa_cons (pe_bltn (v := .ty "list") (by rfl) B.list (by decide +kernel) rfl) (pa_cons (pe_bltn (v := .ty "tuple") (by rfl) B.tuple (by decide +kernel) rfl) pa_nil))) pa_nil)))) (pss_cons (ps_set (i := 2) scLExact.nd rfl (Or.inl rfl) (pe_and (pe_cmpR op_eq (pe_callB call_isi (by rfl) B.isi (by decide +kernel) (pa_cons (pv 1) (pa_cons (pe_bltn (v := .ty "list") (by rfl) B.list (by decide +kernel) rfl) pa_nil))) (pe_callB call_isi (by rfl) B.isi (by decide +kernel) (pa_cons (pv 0) (pa_cons (pe_bltn (v := .ty "list") (by rfl) B.list (by decide +kernel) rfl) pa_nil))) (nomark _)) (pe_one (pe_cmpR op_eq (pe_callB call_isi (by rfl) B.isi (by decide +kernel) (pa_cons (pv 1) (pa_cons (pe_bltn (v := .ty "tuple") (by rfl) B.tuple (by decide +kernel) rfl) pa_nil))) (pe_callB call_isi (by rfl) B.isi (by decide +kernel) (pa_cons (pv 0) (pa_cons (pe_bltn (v := .ty "tuple") (by rfl) B.tuple (by decide +kernel) rfl) pa_nil))) (nomark _)))))
      (pss_one (ps_ret (pe_and (pv 2) (pe_and (pe_cmpR op_eq (pe_callB call_len_seq (by rfl) B.len PySem.boot_len (pa_cons (pv 0) pa_nil)) (pe_callB call_len_seq (by rfl) B.len PySem.boot_len (pa_cons (pv 1) pa_nil)) (nomark _)) (pe_one (pe_callB (cr_all rfl) (by rfl) B.all (by decide +kernel) (pa_cons (pe_lc (own := [("a", 3), ("b", 4)]) (g := gTup K 2 (gCons (gName 3) (gCons (gName 4) gNil))) (tt := tYes) rfl scLExact.nd (RZ.pi_zipA (by rfl) B.zip (pa_cons (pv 0) (pa_cons (pv 1) pa_nil))) (blkOk_by (N := nLExact) (sc := defScope sLExact) (by decide +kernel)) (fun _ _ _ _ _ => pg_tup (by rfl) (pgs_cons (pg_name (i := 3) scLExact.nd rfl (Or.inl rfl)) (pgs_cons (pg_name (i := 4) scLExact.nd rfl (Or.inl rfl)) pgs_nil))) (fun _ _ _ _ _ => pts_nil)
            (fun _ _ _ _ _ => (pe_call GE hr rfl T.g T.F.kp T.b .nil pass0 (pa_cons (pv 3) (pa_cons (pv 4) pa_nil))))) pa_nil)))))))) pss_nil)
      (pss_cons (ps_if (pt_val (pe_callB call_isi (by rfl) B.isi (by decide +kernel) (pa_cons (pv 0) (pa_cons (pe_bltn (v := .ty "dict") (by rfl) B.dict (by decide +kernel) rfl) pa_nil)))) pss_never pss_nil)
      (pss_cons (ps_set (i := 2) scLExact.nd rfl (Or.inl rfl) (pe_cmpR op_eq (pe_callB call_isi (by rfl) B.isi (by decide +kernel) (pa_cons (pv 0) (pa_cons (pe_bltn (v := .ty "int") (by rfl) B.int (by decide +kernel) rfl) pa_nil))) (pe_callB call_isi (by rfl) B.isi (by decide +kernel) (pa_cons (pv 1) (pa_cons (pe_bltn (v := .ty "int") (by rfl) B.int (by decide +kernel) rfl) pa_nil))) (nomark _)))
      (pss_one (ps_ret (pe_and (pv 2) (pe_and (pe_cmpR op_eq (pe_callB call_isi (by rfl) B.isi (by decide +kernel) (pa_cons (pv 0) (pa_cons (pe_bltn (v := .ty "bool") (by rfl) B.bool_ (by decide +kernel) rfl) pa_nil))) (pe_callB call_isi (by rfl) B.isi (by decide +kernel) (pa_cons (pv 1) (pa_cons (pe_bltn (v := .ty "bool") (by rfl) B.bool_ (by decide +kernel) rfl) pa_nil))) (nomark _)) (pe_one (pe_cmpR op_eq (pv 0) (pv 1) (nomark _)))))))))), ?_⟩
      rcases hd' with ⟨rfl, hs⟩ | ⟨a, a', xs, ys, rfl, rfl, hk, hl, hm, hx⟩
      · obtain ⟨c, bi, bb, ty, k1, k2, k3, k4, sc⟩ := scl_ty (K := K) hs
        refine ⟨v', rfl, by show 2 ≤ sizeLine; rw [sizeLine_eq]; omega, fun p hp => ⟨v', p, _, _, _, false, rfl, upd_same, .cons (.ty "list") (.cons (.ty "tuple") .nil), ty _, k1, false, rfl, iteF ?_⟩⟩
        refine ⟨_, rfl, _, _, _, _, false, rfl, .ty "dict", ty _, k2, false, rfl, iteF ?_⟩
        refine ⟨_, rfl, _, _, _, _, bi, rfl, .ty "int", ty _, k3, _, rfl, _, _, _, _, bi, rfl, .ty "int", ty _, k3, rfl, ?_⟩
        refine ⟨_, rfl, true, congrArg V.bl (decide_eq_true rfl), ?_⟩
        refine ⟨_, rfl, _, _, _, _, bb, rfl, .ty "bool", ty _, k4, _, rfl, _, _, _, _, bb, rfl, .ty "bool", ty _, k4, rfl, true, congrArg V.bl (decide_eq_true rfl), ?_⟩
        refine ⟨_, rfl, _, rfl, sc, ?_⟩
        have e : decide (v' = v') = true := decide_eq_true rfl
        rw [e]
        exact k _ (same_upd hp)

      · rcases hk with ⟨h1, h2⟩ | ⟨h1, h2⟩
        · have tyA : ∀ p, H p = none → ∀ b zs, H b = some (.lst zs) → TyX K (upd H p (.tup [.ty "list", .ty "tuple"])) (.ref b) (.type "list") := fun p hp b zs e => .base (.lst (show upd H p _ b = _ by rw [upd_ne (ne_of_none e hp)]; exact e))
          refine ⟨.ref a, rfl, by show 2 ≤ sizeLine; rw [sizeLine_eq]; omega, fun p hp => ⟨.ref a, p, _, _, _, true, rfl, upd_same, .cons (.ty "list") (.cons (.ty "tuple") .nil), tyA p hp a xs h1, kitAny_cons (b := true) (kit_ty (by decide +kernel)) (fun z => by cases z) (fun _ => rfl), true, rfl, iteT ?_⟩⟩
          have s1 : Same H (upd H p (.tup [.ty "list", .ty "tuple"])) := same_upd hp
          refine ⟨_, rfl, _, _, _, _, true, rfl, .ty "list", tyA p hp a' ys h2, kit_ty (by decide +kernel), _, rfl, _, _, _, _, true, rfl, .ty "list", tyA p hp a xs h1, kit_ty (by decide +kernel), rfl, true, congrArg V.bl (decide_eq_true rfl), ?_⟩
          refine ⟨_, rfl, _, _, _, _, false, rfl, .ty "tuple", tyA p hp a' ys h2, kit_ty (by decide +kernel), _, rfl, _, _, _, _, false, rfl, .ty "tuple", tyA p hp a xs h1, kit_ty (by decide +kernel), rfl, ?_⟩
          refine ⟨_, rfl, true, congrArg V.bl (decide_eq_true rfl), ?_⟩
          refine ⟨_, rfl, a, xs, rfl, .inl (SqL.of (s1 _ _ h1)), _, rfl, a', ys, rfl, .inl (SqL.of (s1 _ _ h2)), rfl, true, congrArg V.bl (decide_eq_true (by rw [hl])), ?_⟩
          refine ⟨_, rfl, _, rfl, a, a', xs, ys, rfl, .inl ⟨SqL.of (s1 _ _ h1), SqL.of (s1 _ _ h2), fun D hD => ?_⟩⟩
          have sD : Same H (upd (upd H p (.tup [.ty "list", .ty "tuple"])) D (.lst [])) := s1.trans (same_upd hD)
          have nHD : H D = none := s1.free hD
          refine lc_it (walk_zip (n := xs.length) (by omega)) (fun i H' => Same H H' ∧ H' D = some (.lst (List.replicate i (.bl true)))) ⟨sD, upd_same⟩ (fun i H' _ q => ⟨SqL.of (q.1 _ _ h1), SqL.of (q.1 _ _ h2)⟩) ?_ ?_
          · rintro i x H' H2 hi ⟨sI, eD⟩ ⟨Tp, x1, x2, rfl, nT, rfl, g1, g2⟩
            have s2 : Same H' (upd H' Tp (.tup [x1, x2])) := same_upd nT
            refine ⟨Tp, _, rfl, SqT.of upd_same, rfl, _, _, rfl, _, _, rfl, rfl, rfl, ?_⟩
            refine ⟨_, rfl, _, rfl, x1, x2, rfl, (hx i x1 x2 g1 g2).mono (sI.trans s2), fun H3 s3 => ⟨_, s3 _ _ (s2 _ _ eD), by rw [List.length_replicate, sizeLine_eq]; omega, ?_, ?_⟩⟩
            · exact same_over ((sI.trans s2).trans s3) nHD
            · rw [upd_same, ← List.replicate_succ']
          · rintro H' ⟨sI, eD⟩
            refine ⟨D, List.replicate xs.length true, rfl, SqL.of (by rw [eD, List.map_replicate]), ?_⟩
            have e : (List.replicate xs.length true).all id = true := by
              rw [List.all_eq_true]
              intro b hb
              exact (List.mem_replicate.mp hb).2
            rw [e]
            exact k _ sI
        · have tyA : ∀ p, H p = none → ∀ b zs, H b = some (.tup zs) → TyX K (upd H p (.tup [.ty "list", .ty "tuple"])) (.ref b) (.type "tuple") := fun p hp b zs e => .base (.tup (show upd H p _ b = _ by rw [upd_ne (ne_of_none e hp)]; exact e))
          refine ⟨.ref a, rfl, by show 2 ≤ sizeLine; rw [sizeLine_eq]; omega, fun p hp => ⟨.ref a, p, _, _, _, true, rfl, upd_same, .cons (.ty "list") (.cons (.ty "tuple") .nil), tyA p hp a xs h1, kitAny_cons (b := false) (kit_ty (by decide +kernel)) (fun _ => kitAny_cons (b := true) (kit_ty (by decide +kernel)) (fun z => by cases z) (fun _ => rfl)) (fun z => by cases z), true, rfl, iteT ?_⟩⟩
          have s1 : Same H (upd H p (.tup [.ty "list", .ty "tuple"])) := same_upd hp
          refine ⟨_, rfl, _, _, _, _, false, rfl, .ty "list", tyA p hp a' ys h2, kit_ty (by decide +kernel), _, rfl, _, _, _, _, false, rfl, .ty "list", tyA p hp a xs h1, kit_ty (by decide +kernel), rfl, true, congrArg V.bl (decide_eq_true rfl), ?_⟩
          refine ⟨_, rfl, _, _, _, _, true, rfl, .ty "tuple", tyA p hp a' ys h2, kit_ty (by decide +kernel), _, rfl, _, _, _, _, true, rfl, .ty "tuple", tyA p hp a xs h1, kit_ty (by decide +kernel), rfl, ?_⟩
          refine ⟨_, rfl, true, congrArg V.bl (decide_eq_true rfl), ?_⟩
          refine ⟨_, rfl, a, xs, rfl, .inr (SqT.of (s1 _ _ h1)), _, rfl, a', ys, rfl, .inr (SqT.of (s1 _ _ h2)), rfl, true, congrArg V.bl (decide_eq_true (by rw [hl])), ?_⟩
          refine ⟨_, rfl, _, rfl, a, a', xs, ys, rfl, .inr ⟨SqT.of (s1 _ _ h1), SqT.of (s1 _ _ h2), fun D hD => ?_⟩⟩
          have sD : Same H (upd (upd H p (.tup [.ty "list", .ty "tuple"])) D (.lst [])) := s1.trans (same_upd hD)
          have nHD : H D = none := s1.free hD
          refine lc_it (walk_zipT (n := xs.length) (by omega)) (fun i H' => Same H H' ∧ H' D = some (.lst (List.replicate i (.bl true)))) ⟨sD, upd_same⟩ (fun i H' _ q => ⟨SqT.of (q.1 _ _ h1), SqT.of (q.1 _ _ h2)⟩) ?_ ?_
          · rintro i x H' H2 hi ⟨sI, eD⟩ ⟨Tp, x1, x2, rfl, nT, rfl, g1, g2⟩
            have s2 : Same H' (upd H' Tp (.tup [x1, x2])) := same_upd nT
            refine ⟨Tp, _, rfl, SqT.of upd_same, rfl, _, _, rfl, _, _, rfl, rfl, rfl, ?_⟩
            refine ⟨_, rfl, _, rfl, x1, x2, rfl, (hx i x1 x2 g1 g2).mono (sI.trans s2), fun H3 s3 => ⟨_, s3 _ _ (s2 _ _ eD), by rw [List.length_replicate, sizeLine_eq]; omega, ?_, ?_⟩⟩
            · exact same_over ((sI.trans s2).trans s3) nHD
            · rw [upd_same, ← List.replicate_succ']
          · rintro H' ⟨sI, eD⟩
            refine ⟨D, List.replicate xs.length true, rfl, SqL.of (by rw [eD, List.map_replicate]), ?_⟩
            have e : (List.replicate xs.length true).all id = true := by
              rw [List.all_eq_true]
              intro b hb
              exact (List.mem_replicate.mp hb).2
            rw [e]
            exact k _ sI
end
end K3

namespace K3
open PySem PySem.Spec PyProof.Rows L2 KT
open PySem.W (Frag)
theorem rising_at : ∀ (zs : List Str) (p : Str), risingS p zs = true → ∀ (i : Nat) (x y : Str), (p :: zs)[i]? = some x → (p :: zs)[i + 1]? = some y → ltCps y.cps.toList x.cps.toList = false
  | [], _, _, i, x, y, _, h => by simp at h
  | z :: r, p, h, i, x, y, h1, h2 => by
    unfold risingS at h
    rw [Bool.and_eq_true, Bool.not_eq_true'] at h
    cases i with
    | zero =>
      simp at h1 h2
      rw [← h1, ← h2]
      exact h.1
    | succ i => exact rising_at r z h.2 i x y (by simpa using h1) (by simpa using h2)
theorem sorted_at {zs : List Str} (h : sortedS zs = true) {i : Nat} {x y : Str} (h1 : zs[i]? = some x) (h2 : zs[i + 1]? = some y) : ltCps y.cps.toList x.cps.toList = false := by
  cases zs with
  | nil => simp at h1
  | cons p r => exact rising_at r p h i x y h1 h2
theorem lt_total : ∀ a b : List Nat, ltCps b a = false → a ≠ b → ltCps a b = true
  | [], [], _, h => absurd rfl h
  | [], _ :: _, _, _ => rfl
  | _ :: _, [], h, _ => by simp [ltCps] at h
  | a :: r, b :: t, h, n => by
    unfold ltCps at h ⊢
    rw [Bool.or_eq_false_iff] at h
    obtain ⟨h1, h2⟩ := h
    have h1 : ¬ b < a := of_decide_eq_false h1
    by_cases e : a = b
    · subst e
      have q : ltCps t r = false := by simpa using h2
      have n' : r ≠ t := fun z => n (by rw [z])
      rw [lt_total r t q n']
      simp
    · have : a < b := by omega
      simp [this]
theorem plains_lt {zs : List Str} (h : Plains zs) {i : Nat} {x y : Str} (h1 : zs[i]? = some x) (h2 : zs[i + 1]? = some y) : decide (x.cps.toList < y.cps.toList) = true := by
  have q := sorted_at h.so h1 h2
  rw [← PyProof.Rows.ltCps_eq]
  refine lt_total _ _ q fun e => ?_
  have exy : x = y := by
    have e2 : x.cps = y.cps := Array.toList_inj.mp e
    cases x
    cases y
    simp at e2
    rw [e2]
  obtain ⟨l1, g1⟩ := List.getElem?_eq_some_iff.mp h1
  obtain ⟨l2, g2⟩ := List.getElem?_eq_some_iff.mp h2
  exact List.pairwise_iff_getElem.mp h.nd i (i + 1) l1 l2 (by omega) (by rw [g1, g2, exy])
section
variable {P : Program} {w : World} {K : Frag} {mg : Str → Option Value} {base : Heap}
def spIsCount : Sp := fun vs H Q _ => ∃ n : Nat, vs = [.int n] ∧ Q (.bl true) H
theorem ok_isCount {f : Addr} {fd : FuncData} (T : Top K mg "is_count" sIsCount pIsCount f fd) (B : Blt mg) : FnOk P w K mg base CX0 1 f fd pIsCount spIsCount := by
  refine T.F.ok scIsCount (fun vs H Q E h => ?_) (fun cdv A outer s H vs Q E hr h => ?_)
  · obtain ⟨_, rfl, _⟩ := h
    rfl
  · obtain ⟨n, rfl, k⟩ := h
    refine ⟨_, pss_one (ps_ret (pe_and (pe_callB call_isi (by rfl) B.isi (by decide +kernel) (pa_cons (pv 0) (pa_cons (pe_bltn (v := .ty "int") (by rfl) B.int (by decide +kernel) rfl) pa_nil))) (pe_and (pe_not (pe_callB call_isi (by rfl) B.isi (by decide +kernel) (pa_cons (pv 0) (pa_cons (pe_bltn (v := .ty "bool") (by rfl) B.bool_ (by decide +kernel) rfl) pa_nil)))) (pe_one (pe_cmpR op_ge (pv 0) pe_int (nomark _)))))), ?_⟩
    refine ⟨_, rfl, _, _, _, _, true, rfl, .ty "int", .base (.int _), kit_ty (by decide +kernel), true, rfl, ?_⟩
    refine ⟨_, rfl, _, _, _, _, false, rfl, .ty "bool", .base (.int _), kit_ty (by decide +kernel), false, rfl, true, rfl, ?_⟩
    refine ⟨_, rfl, _, _, rfl, rfl, ?_⟩
    have e : decide ((0 : Int) ≤ (n : Int)) = true := decide_eq_true (by omega)
    show Q (.bl (decide ((0 : Int) ≤ (n : Int)))) H
    rw [e]
    exact k
def spCheckCount : Sp := fun vs H Q _ => ∃ n : Nat, vs = [.int n] ∧ Q .non H
theorem ok_checkCount {f fc : Addr} {fd fdc : FuncData} (T : Top K mg "check_count" sCheckCount pCheckCount f fd) (TC : Top K mg "is_count" sIsCount pIsCount fc fdc) (B : Blt mg) : FnOk P w K mg base CX0 2 f fd pCheckCount spCheckCount := by
  have GC : FnOk P w K mg base CX0 1 fc fdc pIsCount spIsCount := ok_isCount TC B
  refine T.F.ok scCheckCount (fun vs H Q E h => ?_) (fun cdv A outer s H vs Q E hr h => ?_)
  · obtain ⟨_, rfl, _⟩ := h
    rfl
  · obtain ⟨n, rfl, k⟩ := h
    refine ⟨_, pss_one (ps_if (pt_not (pt_val (pe_call GC hr rfl TC.g TC.F.kp TC.b .nil pass0 (pa_cons (pv 0) pa_nil)))) pss_never pss_nil), ?_⟩
    exact ⟨_, rfl, n, rfl, true, rfl, iteF k⟩
def spCheckPlains : Sp := fun vs H Q _ => ∃ (L : Addr) (zs : List Str), vs = [.ref L] ∧ H L = some (.lst (zs.map V.str)) ∧ Plains zs ∧ ∀ H', Same H H' → Q .non H'
theorem ok_checkPlains {f fw : Addr} {fd fdw : FuncData} (T : Top K mg "check_plains" sCheckPlains pCheckPlains f fd) (TW : Top K mg "is_word" sIsWord pIsWord fw fdw) (B : Blt mg) (G : Gbl K mg) : FnOk P w K mg base CX0 2 f fd pCheckPlains spCheckPlains := by
  have GW : FnOk P w K mg base CX0 1 fw fdw pIsWord spIsWord := ok_isWord TW B G
  refine T.F.ok scCheckPlains (fun vs H Q E h => ?_) (fun cdv A outer s H vs Q E hr h => ?_)
  · obtain ⟨_, _, rfl, _⟩ := h
    rfl
  · obtain ⟨L, zs, rfl, eL, hz, k⟩ := h
    refine ⟨_, (pss_cons (ps_if (PW.pt (pw_or (pt_not (pt_val (pe_callB call_isi (by rfl) B.isi (by decide +kernel) (pa_cons (pv 0) (pa_cons (pe_bltn (v := .ty "list") (by rfl) B.list (by decide +kernel) rfl) pa_nil))))) (pw_or (pt_not (pt_truth (pv 0) (by intro _; rfl))) (pw_or1 (pt_not (pt_val (pe_callB (cr_all rfl) (by rfl) B.all (by decide +kernel) (pa_cons (pe_lc (own := [("word", 1)]) (g := gName 1) (tt := tYes) rfl scCheckPlains.nd (pi_list (pv 0)) (blkOk_by (N := nCheckPlains) (sc := defScope sCheckPlains) (by decide +kernel)) (fun _ _ _ _ _ => pg_name (i := 1) scCheckPlains.nd rfl (Or.inl rfl)) (fun _ _ _ _ _ => pts_nil) (fun _ _ _ _ _ => (pe_call GW hr rfl TW.g TW.F.kp TW.b .nil pass0 (pa_cons (pv 1) pa_nil)))) pa_nil)))))))) pss_never pss_nil)
      (pss_one (ps_if (pt_not (pt_val (pe_callB (cr_all rfl) (by rfl) B.all (by decide +kernel) (pa_cons (pe_lc (own := [("place", 2)]) (g := gName 2) (tt := tYes) rfl scCheckPlains.nd (pi_range1 (by rfl) B.range (pa_cons (pe_op op_sub (pe_callB call_len_seq (by rfl) B.len PySem.boot_len (pa_cons (pv 0) pa_nil)) pe_int) pa_nil)) (blkOk_by (N := nCheckPlains) (sc := defScope sCheckPlains) (by decide +kernel)) (fun _ _ _ _ _ => pg_name (i := 2) scCheckPlains.nd rfl (Or.inl rfl)) (fun _ _ _ _ _ => pts_nil) (fun _ _ _ _ _ => (pe_cmpR op_lt_str (pe_ix (show IxR _ (rIxL K) from ix_list) (pv 0) (pv 2) (fun _ _ => rfl)) (pe_ix (show IxR _ (rIxL K) from ix_list) (pv 0) (pe_op op_add (pv 2) pe_int) (fun _ _ => rfl)) (nomark _)))) pa_nil)))) pss_never pss_nil))), ?_⟩
    have l1 := hz.l1
    have l3 := hz.l3
    have hne : (zs.map V.str).isEmpty = false := by
      cases zs with
      | nil => simp at l1
      | cons _ _ => rfl
    have rep : ∀ n : Nat, (List.replicate n true).all id = true := fun n => by
      rw [List.all_eq_true]
      intro b hb
      exact (List.mem_replicate.mp hb).2
    refine ⟨_, rfl, _, _, _, _, true, rfl, .ty "list", .base (.lst eL), kit_ty (by decide +kernel), true, rfl, iteF ?_⟩
    refine ⟨_, rfl, true, .inl ⟨_, SqL.of eL, by rw [hne]; rfl⟩, iteF ?_⟩
    refine ⟨_, rfl, L, rfl, ⟨_, SqL.of eL⟩, fun D hD => ?_⟩
    have nLD : L ≠ D := ne_of_none eL hD
    refine lc_list (K := K) (xs := zs.map V.str) (fun i H' => Same H H' ∧ H' D = some (.lst (List.replicate i (.bl true)))) ⟨same_upd hD, upd_same⟩ ?_ ?_ ?_
    · rintro i H' _ ⟨sI, _⟩
      exact SqL.of (sI _ _ eL)
    · rintro i x H' hx ⟨sI, eD⟩
      rw [List.getElem?_map] at hx
      obtain ⟨z, hzi, rfl⟩ := Option.map_eq_some_iff.mp hx
      obtain ⟨hi, _⟩ := List.getElem?_eq_some_iff.mp hzi
      refine ⟨rfl, _, rfl, z, rfl, hz.w z (List.mem_of_getElem? hzi), fun H2 s2 => ⟨_, s2 _ _ eD, by rw [List.length_replicate, sizeLine_eq]; omega, same_over (sI.trans s2) hD, by rw [upd_same, ← List.replicate_succ']⟩⟩
    · rintro H1 ⟨s1, eD⟩
      rw [List.length_map] at eD
      refine ⟨D, List.replicate zs.length true, rfl, SqL.of (by rw [eD, List.map_replicate]), true, congrArg V.bl (rep _), iteF ?_⟩
      have eL1 := s1 _ _ eL
      have em : (((zs.map V.str).length : Nat) : Int) - 1 = ((zs.length - 1 : Nat) : Int) := by rw [List.length_map]; omega
      refine ⟨_, rfl, L, _, rfl, .inl (SqL.of eL1), _, _, rfl, rfl, _, rfl, by rw [List.length_map]; omega, by rw [List.length_map]; omega, fun D2 hD2 => ?_⟩
      have nLD2 : L ≠ D2 := ne_of_none eL1 hD2
      have et : (((zs.map V.str).length : Int) - 1).toNat = zs.length - 1 := by rw [List.length_map]; omega
      rw [et]
      refine lc_range (lo := 0) (n := zs.length - 1) (fun i H' => H' = upd H1 D2 (.lst (List.replicate i (.bl true)))) rfl ?_ ?_
      · rintro i H' hi rfl
        have eL2 : upd H1 D2 (.lst (List.replicate i (.bl true))) L = some (.lst (zs.map V.str)) := by rw [upd_ne nLD2]; exact eL1
        obtain ⟨x, hx⟩ : ∃ x, zs[i]? = some x := ⟨_, List.getElem?_eq_getElem (by omega)⟩
        obtain ⟨y, hy⟩ : ∃ y, zs[i + 1]? = some y := ⟨_, List.getElem?_eq_getElem (by omega)⟩
        have ei : (0 : Int) + (i : Int) = ((i : Nat) : Int) := by omega
        have ei1 : (0 : Int) + (i : Int) + 1 = ((i + 1 : Nat) : Int) := by omega
        refine ⟨rfl, _, rfl, _, rfl, L, _, _, .str x, rfl, rfl, SqL.of eL2, by rw [ei]; exact atI_nat (by rw [List.getElem?_map, hx]; rfl), ?_⟩
        refine ⟨_, rfl, _, rfl, _, _, rfl, rfl, L, _, _, .str y, rfl, rfl, SqL.of eL2, by rw [ei1]; exact atI_nat (by rw [List.getElem?_map, hy]; rfl), x, y, rfl, rfl, _, upd_same, by rw [List.length_replicate, sizeLine_eq]; omega, ?_⟩
        rw [plains_lt hz hx hy, upd_upd, ← List.replicate_succ']
      · rintro H' rfl
        refine ⟨D2, List.replicate (zs.length - 1) true, rfl, SqL.of (by rw [upd_same, List.map_replicate]), true, congrArg V.bl (rep _), iteF ?_⟩
        exact k _ (s1.trans (same_upd hD2))
end
end K3

namespace K3
open PySem PySem.Spec PyProof.Rows L2 KT
open PySem.W (Frag)
/-- the turns of a walk within a comprehension, whatever a turn does -/
theorem lc_gen {J : It} {n : Nat} {G : Hp → Prop} {Y : Nat → Hp → V → Hp → Prop} (w : Walk J n G Y) {BODY : (Hp → Prop) → V → Hp → Prop} {H0 : Hp} {Qd : Hp → Prop} (Pv : Nat → Hp → Prop) (h0 : Pv 0 H0) (hG : ∀ i H, i ≤ n → Pv i H → G H)
    (hs : ∀ i x H H', i < n → Pv i H → Y i H x H' → BODY (Pv (i + 1)) x H') (hd : ∀ H, Pv n H → Qd H) :
    ∃ W : Nat → Nat → Hp → Prop, (∃ m, W 0 m H0) ∧ ∀ i m H, W i m H → (J.stop i H ∧ Qd H) ∨ (J.go i H ∧ ∃ Nx : Hp → Prop, (∀ H', Nx H' → ∃ m', m' < m ∧ W (i + 1) m' H') ∧ ∀ x H', J.yld i H x H' → BODY Nx x H') := by
  refine ⟨fun i m H => m = n - i ∧ i ≤ n ∧ Pv i H, ⟨n, by simp, Nat.zero_le _, h0⟩, ?_⟩
  rintro i m H ⟨rfl, hi, p⟩
  have q := hG i H hi p
  by_cases hlt : i < n
  · exact .inr ⟨w.goes i H hlt q, Pv (i + 1), fun H' p' => ⟨n - (i + 1), by omega, rfl, hlt, p'⟩, fun x H' y => hs i x H H' hlt p (w.yields i H x H' hlt q y)⟩
  · have e : i = n := by omega
    subst e
    exact .inl ⟨w.stops H q, hd H p⟩
/-- the words of the plain nodes -/
def leafs : List Ty → List Str
  | [] => []
  | .w z :: r => z :: leafs r
  | .n _ _ _ :: r => leafs r
theorem leafs_app (l r : List Ty) : leafs (l ++ r) = leafs l ++ leafs r := by
  induction l with
  | nil => rfl
  | cons t l ih => cases t <;> simp [leafs, ih]
theorem leafs_nodes (t : Ty) (z : Str) : z ∈ leafs t.nodes ↔ z ∈ t.words := by
  induction t with
  | w y => simp [Ty.nodes, leafs, Ty.words]
  | n g a b i j =>
    simp only [Ty.nodes, leafs, leafs_app, Ty.words, List.mem_append, i, j]
    exact Or.comm
theorem leafs_len (l : List Ty) : (leafs l).length ≤ l.length := by
  induction l with
  | nil => exact Nat.le_refl _
  | cons t l ih => cases t <;> simp [leafs] <;> omega
theorem sizes_take : ∀ (ts : List Ty) (i : Nat) (t : Ty), ts[i]? = some t → sizes (ts.take i) + t.size ≤ sizes ts
  | [], i, t, h => by simp at h
  | u :: ts, 0, t, h => by
    have e := Option.some.inj (show some u = some t from h)
    subst e
    simp [sizes]
  | u :: ts, i + 1, t, h => by
    have q := sizes_take ts i t (by simpa using h)
    simp only [List.take_succ_cons, sizes]
    omega
theorem nodesAll_snoc : ∀ (ts : List Ty) (i : Nat) (t : Ty), ts[i]? = some t → nodesAll (ts.take (i + 1)) = nodesAll (ts.take i) ++ t.nodes
  | [], i, t, h => by simp at h
  | u :: ts, 0, t, h => by
    have e := Option.some.inj (show some u = some t from h)
    subst e
    simp [nodesAll]
  | u :: ts, i + 1, t, h => by
    have q := nodesAll_snoc ts i t (by simpa using h)
    rw [List.take_succ_cons, List.take_succ_cons, nodesAll, nodesAll, q, List.append_assoc]
theorem leafs_snoc (l : List Ty) (j : Nat) (u : Ty) (h : l[j]? = some u) : leafs (l.take (j + 1)) = leafs (l.take j) ++ leafs [u] := by
  rw [List.take_add_one, h, leafs_app]
  rfl
theorem leafs_all : ∀ (ts : List Ty) (z : Str), z ∈ leafs (nodesAll ts) ↔ ∃ t ∈ ts, z ∈ t.words
  | [], z => by simp [nodesAll, leafs]
  | t :: ts, z => by
    rw [nodesAll, leafs_app, List.mem_append, leafs_nodes, leafs_all ts z]
    simp
/-- the ascending list of the words in some types -/
structure PlainsOf (ys : List Str) (ts : List Ty) : Prop where
  so : sortedS ys = true
  nd : ys.Nodup
  mem : ∀ z, z ∈ ys ↔ ∃ t ∈ ts, z ∈ t.words
section
variable {P : Program} {w : World} {K : Frag} {mg : Str → Option Value} {base : Heap}
def spPlainsIn : Sp := fun vs H Q _ => ∃ (L : Addr) (us : List V) (ts : List Ty), vs = [.ref L] ∧ H L = some (.lst us) ∧ Tys H us ts ∧ sizes ts ≤ 4000 ∧ ∀ (R : Addr) (ys : List Str) (H' : Hp), PlainsOf ys ts → Same H H' → H R = none → H' R = some (.lst (ys.map V.str)) → Q (.ref R) H'
theorem ok_plainsIn {f fk fn fp fc : Addr} {fd fdk fdn fdp fdc : FuncData} (T : Top K mg "plains_in" sPlainsIn pPlainsIn f fd) (U : TKs K mg fk fn fp fc fdk fdn fdp fdc) (B : Blt mg) : FnOk P w K mg base L2.CX0 4 f fd pPlainsIn spPlainsIn := by
  have GK : FnOk P w K mg base L2.CX0 3 fk fdk pKindsIn spKindsIn := ok_kindsIn U.TK U.TN U.TP B
  have TK_ := U.TK
  refine T.F.ok scPlainsIn (fun vs H Q E h => ?_) (fun cdv A outer s H vs Q E hr h => ?_)
  · obtain ⟨_, _, _, rfl, _⟩ := h
    rfl
  · obtain ⟨L, us, ts, rfl, eL, hT, hz, k⟩ := h
    refine ⟨_, pss_one (ps_ret (pe_callB (cr_sortedG rfl) (by rfl) B.sorted (by decide +kernel) (pa_cons (pe_callTy (cr_setG rfl) (by rfl) B.set (by decide +kernel) (pa_cons
      (pe_lc2 (own := [("kind", 1), ("part", 2)]) (vs1 := [2]) (g := gName 1) (g1 := gName 2) (tt := tYes) (wi1 := iList K (tCall spKindsIn [] L2.E0 (tCons (tVar 1) tNil))) rfl scPlainsIn.nd (pi_list (pv 0)) (blkOk_by (N := nPlainsIn) (sc := defScope sPlainsIn) (by decide +kernel)) (by decide)
        (fun _ _ _ _ _ => pg_name (i := 1) scPlainsIn.nd rfl (Or.inl rfl)) (fun _ _ _ _ _ => pts_nil) (fun _ _ _ _ _ => pi_list (pe_call GK hr rfl TK_.g TK_.F.kp TK_.b .nil pass0 (pa_cons (pv 1) pa_nil))) (fun _ _ _ _ _ => pg_name (i := 2) scPlainsIn.nd rfl (Or.inl rfl))
        (fun _ _ _ _ _ => pts_one (pt_val (pe_callB (show CallR _ (.builtin "isinstance") (rIsi K) from call_isi) (by rfl) B.isi (by decide +kernel) (pa_cons (pv 2) (pa_cons (pe_bltn (v := .ty "str") (by rfl) B.str_ (by decide +kernel) rfl) pa_nil))))) (fun _ _ _ _ _ => pv 2)) pa_nil)) pa_nil))), ?_⟩
    refine ⟨_, rfl, L, rfl, ⟨_, SqL.of eL⟩, fun D hD => ?_⟩
    have lT := hT.length
    have lz := sizes_len ts
    have hsz : ∀ (i : Nat) (t : Ty), ts[i]? = some t → (nodesAll (ts.take i)).length + t.size ≤ 4000 := by
      intro i t h
      rw [nodesAll_len]
      have := sizes_take ts i t h
      omega
    refine lc_gen (walk_list (K := K) (xs := us)) (fun i H' => Same H H' ∧ H' D = some (.lst ((leafs (nodesAll (ts.take i))).map V.str))) ⟨same_upd hD, upd_same⟩ (fun i H' _ q => SqL.of (q.1 _ _ eL)) ?_ ?_
    · rintro i x H1 H2 hi ⟨s1, eD⟩ ⟨rfl, hx⟩
      obtain ⟨t, ht, hxt⟩ := hT.at_ hx
      have hxt := hxt.mono (TK.of_same s1)
      have hz2 := hsz i t ht
      refine ⟨rfl, x, rfl, x, t, rfl, hxt, by omega, fun L2 us2 H3 s3 nL2 eL2 hT2 => ⟨L2, rfl, ⟨_, SqL.of eL2⟩, ?_⟩⟩
      have lu := hT2.length
      refine lc_gen (walk_list (K := K) (xs := us2)) (fun j H' => Same H H' ∧ H' L2 = some (.lst us2) ∧ Tys H' us2 t.nodes ∧ H' D = some (.lst ((leafs (nodesAll (ts.take i)) ++ leafs (t.nodes.take j)).map V.str))) ⟨s1.trans s3, eL2, hT2, by rw [List.take_zero]; simp [leafs]; exact s3 _ _ eD⟩ (fun j H' _ q => SqL.of q.2.1) ?_ ?_
      · rintro j y H4 H5 hj ⟨s4, e4, hT4, eD4⟩ ⟨rfl, hy⟩
        obtain ⟨u, hu, hyu⟩ := hT4.at_ hy
        have nLD : L2 ≠ D := by
          intro e
          rw [e, s3 _ _ eD] at eL2
          have nn : H2 D = none := by rw [← e]; exact nL2
          rw [eD] at nn
          cases nn
        have lf := leafs_len (nodesAll (ts.take i))
        have lf2 := leafs_len (t.nodes.take j)
        have ltk : (t.nodes.take j).length ≤ t.size := by rw [List.length_take, Ty.nodes_len]; omega
        have snoc := leafs_snoc t.nodes j u hu
        refine ⟨rfl, y, rfl, y, .ty "str", ?_⟩
        cases hyu with
        | @w z h =>
          refine ⟨_, _, true, rfl, .ty "str", .base (.str z), kit_ty (by decide +kernel), true, rfl, iteT ⟨_, rfl, _, eD4, by rw [List.length_map, List.length_append, sizeLine_eq]; omega, ?_⟩⟩
          refine ⟨same_over s4 hD, by rw [upd_ne nLD]; exact e4, hT4.mono (TK.upd_lst eD4), ?_⟩
          rw [upd_same, snoc, ← List.append_assoc, List.map_append, List.map_append, List.map_append]
          rfl
        | @n p g x1 x2 a b e h1 h2 =>
          refine ⟨_, _, false, rfl, .ty "str", .base (.tup e), kit_ty (by decide +kernel), false, rfl, iteF ⟨s4, e4, hT4, ?_⟩⟩
          rw [snoc, show leafs [Ty.n g a b] = [] from rfl, List.append_nil]
          exact eD4
      · rintro H4 ⟨s4, e4, hT4, eD4⟩
        refine ⟨s4, ?_⟩
        rw [nodesAll_snoc ts i t ht, leafs_app]
        rw [lu, List.take_length] at eD4
        exact eD4
    · rintro H1 ⟨s1, eD⟩
      rw [lT, List.take_length] at eD
      have lf := leafs_len (nodesAll ts)
      rw [nodesAll_len] at lf
      refine ⟨D, _, rfl, SqL.of eD, by omega, fun p hp => ⟨p, _, rfl, upd_same, fun ys q so nd mem hq => ?_⟩⟩
      have sp : Same H (upd H1 p (SetGO P w p (leafs (nodesAll ts)))) := s1.trans (same_upd hp)
      exact k q ys _ ⟨so, nd, fun z => (mem z).trans (leafs_all ts z)⟩ (sp.trans (same_upd hq)) (sp.free hq) upd_same
def spPlainsOf : Sp := fun vs H Q _ => ∃ v t, vs = [v] ∧ TyAt H v t ∧ t.size ≤ 4000 ∧ ∀ (R : Addr) (ys : List Str) (H' : Hp), PlainsOf ys [t] → Same H H' → H R = none → H' R = some (.lst (ys.map V.str)) → Q (.ref R) H'
theorem ok_plainsOf {f fpi fk fn fp fc fi fs fw : Addr} {fd fdpi fdk fdn fdp fdc fdi fds fdw : FuncData} (T : Top K mg "plains_of" sPlainsOf pPlainsOf f fd) (TPI : Top K mg "plains_in" sPlainsIn pPlainsIn fpi fdpi) (U : TKs K mg fk fn fp fc fdk fdn fdp fdc) (I : TIs K mg fi fs fw fdi fds fdw) :
    FnOk P w K mg base L2.CX0 5 f fd pPlainsOf spPlainsOf := by
  have GP : FnOk P w K mg base L2.CX0 4 fpi fdpi pPlainsIn spPlainsIn := ok_plainsIn TPI U I.B
  have GC : FnOk P w K mg base L2.CX0 3 fc fdc pCheckKind spCheckKind := ok_checkKind U.TC I
  have TC := U.TC
  refine T.F.ok scPlainsOf (fun vs H Q E h => ?_) (fun cdv A outer s H vs Q E hr h => ?_)
  · obtain ⟨_, _, rfl, _⟩ := h
    rfl
  · obtain ⟨v, t, rfl, ht, hz, k⟩ := h
    have hr3 : Room 3 _ := hr.mono (by decide)
    refine ⟨_, (pss_cons (ps_expr (pe_call GC hr3 rfl TC.g TC.F.kp TC.b .nil pass0 (pa_cons (pv 0) pa_nil)))
      (pss_one (ps_ret (pe_call GP hr rfl TPI.g TPI.F.kp TPI.b .nil pass0 (pa_cons (pe_lst (pa_cons (pv 0) pa_nil)) pa_nil))))), ?_⟩
    refine ⟨v, rfl, v, t, rfl, ht, by omega, fun H1 s1 => ⟨v, rfl, by show 1 ≤ sizeLine; rw [sizeLine_eq]; omega, fun p hp => ?_⟩⟩
    have s2 : Same H (upd H1 p (.lst [v])) := s1.trans (same_upd hp)
    exact ⟨p, [v], [t], rfl, upd_same, .cons (ht.mono (TK.of_same s2)) .nil, by simp [sizes]; omega, fun R ys H' hys s3 nR eR => k R ys H' hys (s2.trans s3) (s2.free nR) eR⟩
end
end K3

namespace K3
open PySem PySem.Spec PyProof.Rows L2 NdefX LamX KT
open PySem.W (Frag)
def Ty.put (m : Str → Ty) : Ty → Ty
  | .w z => m z
  | .n g a b => .n g (a.put m) (b.put m)
theorem Ty.put_fold (m : Str → Ty) (t : Ty) : t.fold m (fun s a b => .n s a b) = t.put m := by
  induction t with
  | w _ => rfl
  | n g a b i j => simp only [Ty.fold, Ty.put, i, j]
theorem leaf_mem {l : List Ty} {z : Str} (h : Ty.w z ∈ l) : z ∈ leafs l := by
  induction l with
  | nil => cases h
  | cons t l ih =>
    rcases List.mem_cons.mp h with e | h'
    · rw [← e]
      exact List.mem_cons_self
    · cases t with
      | w y => exact List.mem_cons_of_mem _ (ih h')
      | n g a b => exact ih h'
def callArgs : Expr → List Expr
  | .Call _ es _ _ => es
  | _ => []
def retE : Stmt → List Expr
  | .Return (some e) _ => [e]
  | _ => []
def lamSc : Expr → Scope
  | .Lambda _ _ sc _ => sc
  | _ => ⟨.function, [], false, false, []⟩
abbrev scPutLam : Scope := (((L2.defBody sPutIn).flatMap retE).flatMap callArgs).foldr (fun e r => match e with | .Lambda _ _ sc _ => sc | _ => r) ⟨.function, [], false, false, []⟩
section
variable {P : Program} {w : World} {K : Frag} {mg : Str → Option Value} {base : Heap} {cF cT cP PF PT PP : Addr}
def spPutIn (PF PT PP : Addr) : Sp := fun vs H Q _ => ∃ (v : V) (t : Ty) (d : Addr) (kvs : List (Key × V)) (m : Str → Ty), vs = [v, .ref d] ∧ TyAt H v t ∧ t.size ≤ 1000000 ∧ Tabs (T3 PF PT PP) H ∧ H d = some (.dK kvs) ∧
  (∀ z ∈ t.words, ∃ x, valV kvs (Sum.inr z) = some x ∧ TyAt H x (m z)) ∧ ∀ v' H', ExtN H H' → Tabs (T3 PF PT PP) H' → TyAt H' v' (t.put m) → Q v' H'
theorem hPutB : ndefB (L2.defScope sPutIn) scPutLam ["sent"] = true := by decide +kernel
theorem ok_putIn {f ff fi fn fp cI : Addr} {fd fdf fdi fdn fdp : FuncData} (T : TopC K mg "put_in" sPutIn pPutIn f fd cP) (U : TFs K mg base ff fi fn fp cI cF cT cP PF PT PP fdf fdi fdn fdp) (B : Blt mg) : FnOk P w K mg base L2.CX0 5 f fd pPutIn (spPutIn PF PT PP) := by
  have GF : FnD P w K mg base 4 ff fdf pFolded (spFolded P w K mg base PF PT PP) := ok_folded U.TF U.TI U.TN U.TP B U.tb
  have TF := U.TF
  refine FnD.ok (T.fnd scPutIn (sp := fun _ => spPutIn PF PT PP) (fun D vs H Q h => ?_) (fun D A outer s H vs Q hr dp h => ?_)) fun vs H Q E h => h
  · obtain ⟨_, _, _, _, _, rfl, _⟩ := h
    rfl
  · obtain ⟨v, t, d, kvs, m, rfl, ht, hz, hT, hd, hm, k⟩ := h
    have hu : ∀ p ∈ T3 PF PT PP, p.1 = PP → p.2 = ("put_in.<locals>.<lambda>" : Str) := by
      intro p hp e
      rcases mem3 hp with rfl | rfl | rfl
      · exact absurd e U.tb.n2
      · exact absurd e U.tb.n3
      · rfl
    have hmm : (PP, ("put_in.<locals>.<lambda>" : Str)) ∈ T3 PF PT PP := List.mem_cons_of_mem _ (List.mem_cons_of_mem _ List.mem_cons_self)
    have eq : (("put_in" : Str) ++ (".<locals>." : Str)) ++ ("<lambda>" : Str) = ("put_in.<locals>.<lambda>" : Str) := by decide +kernel
    refine ⟨_, (pss_one (ps_ret (pe_dcall (D0 := D) (cl := _) (fr := ["sent"]) (js := [1]) GF hr rfl (fun _ => rfl) dp (fun ok => Caps.made (scope := scPutLam) ok (ndef_free hPutB) (ndef_fr hPutB) rfl) rfl TF.T.g TF.T.F.kp TF.T.b
        (pa_cons (pv 0) (pa_cons (pe_lamV (T := T3 PF PT PP) U.tb.bP rfl (by show (PP, (("put_in" : Str) ++ (".<locals>." : Str)) ++ ("<lambda>" : Str)) ∈ _; rw [eq]; exact hmm) (fun p hp e => (hu p hp e).trans eq.symm) rfl (ndef_free (sc := L2.defScope sPutIn) (fr := ["sent"]) (by decide +kernel)))
          (pa_cons (pe_lamV (T := T3 PF PT PP) U.tb.bP rfl (by show (PP, (("put_in" : Str) ++ (".<locals>." : Str)) ++ ("<lambda>" : Str)) ∈ _; rw [eq]; exact hmm) (fun p hp e => (hu p hp e).trans eq.symm) rfl (ndef_free (sc := L2.defScope sPutIn) (fr := []) (by decide +kernel))) pa_nil)))))), ?_⟩
    refine ⟨v, rfl, hT, fun f1 c1 H2 eN nn T2 f0 e1 e2 => ⟨T2, fun f2 c2 H3 eN3 nn3 T3' f03 e13 e23 => fun D1 CD => ?_⟩⟩
    obtain ⟨EX2, C2, x2, n2⟩ := lam_callee (P := P) (w := w) (K := K) (mg := mg) (base := base) (k := 0) (sp := spSg fun s a b => .n s a b) (D := D ++ D1) (N := ["sign", "first", "second"]) (ps := ["sign", "first", "second"]) (fr := []) (ws := []) e13 e23 (nscope_by (by dsimp only [lamF]; decide +kernel)) (fun pm ctv us hl => match us, hl with | [_, _, _], _ => rfl)
      (fun vs H Q h => by obtain ⟨_, _, _, _, _, rfl, _⟩ := h; rfl) CellD.nil (fun A outer s H vs Q hr d h => by
        obtain ⟨g, x, y, a, b, rfl, h1, h2, k⟩ := h
        refine ⟨_, pe_tup (pa_cons (pv 0) (pa_cons (pv 1) (pa_cons (pv 2) pa_nil))), ?_⟩
        exact ⟨_, rfl, _, rfl, _, rfl, by show 3 ≤ sizeLine; rw [sizeLine_eq]; omega, fun p hp => k _ _ (same_upd hp) (.n upd_same (h1.mono (TK.upd_new hp)) (h2.mono (TK.upd_new hp)))⟩)
    have e1' := eN3 _ _ e1 (fun ps z => by unfold LamO at z; cases z)
    have e2' := eN3 _ _ e2 codeO_ne
    have eA : ExtN H H3 := eN.trans eN3
    obtain ⟨EX1, C1, x1, n1⟩ := lam_callee (P := P) (w := w) (K := K) (mg := mg) (base := base) (k := 0) (sp := spPl (fun z => z ∈ t.words) H m) (D := D ++ D1) (N := ["word", "sent"]) (ps := ["word"]) (fr := ["sent"]) (ws := [some (.ref d)]) e1' e2' (nscope_by (by dsimp only [lamF]; decide +kernel)) (fun pm ctv us hl => match us, hl with | [_], _ => rfl)
      (fun vs H Q h => by obtain ⟨_, rfl, _⟩ := h; rfl) (CD.mono fun p hp => List.mem_append.mpr (.inr hp)) (fun A outer s H' vs Q hr dd h => by
        obtain ⟨z, rfl, he0, hW, hz, k⟩ := h
        obtain ⟨x, hx, hxt⟩ := hm z hW
        refine ⟨_, pe_dget (hu_of hr) (pv 1) (pv 0) (fun _ _ => rfl), ?_⟩
        have g1 := DGet.k (k := Sum.inr z) (he0 _ _ hd fun ps z => by cases z)
        rw [hx] at g1
        exact ⟨_, rfl, _, rfl, d, x, rfl, g1, k x H' (Same.refl H') (hxt.mono (ExtN.tk he0))⟩)
    have C1' := C1.mono (Nat.le_refl 1) (fun p hp => hp) (EX' := EX1 ++ EX2) fun p hp => List.mem_append.mpr (.inl hp)
    have C2' := C2.mono (Nat.le_refl 1) (fun p hp => hp) (EX' := EX1 ++ EX2) fun p hp => List.mem_append.mpr (.inr hp)
    refine ⟨v, t, f1, f2, m, _, EX1 ++ EX2, _, H, rfl, eA, fun u hu z e => (leafs_nodes t z).mp (leaf_mem (e ▸ hu)), ht.mono (ExtN.tk eA), hz, C1', C2', fun p hp => (List.mem_append.mp hp).elim (x1 p) (x2 p), fun p hp => (List.mem_append.mp hp).elim (n1 p) (n2 p), T3', fun v' H' e' T' hv' => k v' H' (eA.trans e') T' ?_⟩
    rw [← Ty.put_fold]
    exact hv'
end
end K3

namespace K3
open PySem PySem.Spec PyProof.Rows L2 NdefX LamX KT
open PySem.W (Frag)
section
variable {P : Program} {w : World} {K : Frag} {mg : Str → Option Value} {base : Heap} {cF cT cP PF PT PP : Addr}
def spCheckMap : Sp := fun vs H Q _ => ∃ (d L : Addr) (kvs : List (Key × V)) (ys : List Str), vs = [.ref d, .ref L] ∧ H d = some (.dK kvs) ∧ H L = some (.lst (ys.map V.str)) ∧ kvs.length = ys.length ∧ ys.length ≤ 5000 ∧
  (∀ z ∈ ys, ∃ x t, valV kvs (Sum.inr z) = some x ∧ TyAt H x t ∧ t.size ≤ 1000000) ∧ ∀ H', Same H H' → Q .non H'
theorem ok_checkMap {f fi fs fw : Addr} {fd fdi fds fdw : FuncData} (T : Top K mg "check_map" sCheckMap pCheckMap f fd) (I : TIs K mg fi fs fw fdi fds fdw) : FnOk P w K mg base L2.CX0 3 f fd pCheckMap spCheckMap := by
  have GI : FnOk P w K mg base L2.CX0 2 fi fdi pIsKind spIsKind := ok_isKind I.TI I.TS I.TW I.B I.G
  have B := I.B
  have TI := I.TI
  refine T.F.ok scCheckMap (fun vs H Q E h => ?_) (fun cdv A outer s H vs Q E hr h => ?_)
  · obtain ⟨_, _, _, _, rfl, _⟩ := h
    rfl
  · obtain ⟨d, L, kvs, ys, rfl, hd, eL, hl, hz, hm, k⟩ := h
    have hu := hu_of hr
    refine ⟨_, (pss_cons (ps_if (PW.pt (pw_or (pt_not (pt_val (pe_callB call_isi (by rfl) B.isi (by decide +kernel) (pa_cons (pv 0) (pa_cons (pe_bltn (v := .ty "dict") (by rfl) B.dict (by decide +kernel) rfl) pa_nil))))) (pw_or1 (pt_cmpR op_ne (pe_callB call_lenD (by rfl) B.len PySem.boot_len (pa_cons (pv 0) pa_nil)) (pe_callB call_len_seq (by rfl) B.len PySem.boot_len (pa_cons (pv 1) pa_nil)) (nomark _))))) pss_never pss_nil)
      (pss_one (ps_if (pt_not (pt_val (pe_callB (cr_all rfl) (by rfl) B.all (by decide +kernel) (pa_cons (pe_lc (own := [("word", 2)]) (g := gName 2) (tt := tYes) rfl scCheckMap.nd (pi_list (pv 1)) (blkOk_by (N := nCheckMap) (sc := defScope sCheckMap) (by decide +kernel)) (fun _ _ _ _ _ => pg_name (i := 2) scCheckMap.nd rfl (Or.inl rfl)) (fun _ _ _ _ _ => pts_nil) (fun _ _ _ _ _ => (pe_and (pe_cmp (pc_din hu (pv 2) (pv 0)) rfl) (pe_one (pe_call GI hr rfl TI.g TI.F.kp TI.b .nil pass0 (pa_cons (pe_dget hu (pv 0) (pv 2) (fun _ _ => rfl)) pa_nil)))))) pa_nil))) ) pss_never pss_nil))), ?_⟩
    refine ⟨_, rfl, _, _, _, _, true, rfl, .ty "dict", .base (.dK hd), kit_ty (by decide +kernel), true, rfl, iteF ?_⟩
    refine ⟨_, rfl, d, kvs, rfl, hd, _, rfl, L, _, rfl, .inl (SqL.of eL), rfl, false, congrArg V.bl (by rw [List.length_map, hl]; simp), iteF ?_⟩
    refine ⟨_, rfl, L, rfl, ⟨_, SqL.of eL⟩, fun D hD => ?_⟩
    refine lc_list (K := K) (xs := ys.map V.str) (fun i H' => Same H H' ∧ H' D = some (.lst (List.replicate i (.bl true)))) ⟨same_upd hD, upd_same⟩ ?_ ?_ ?_
    · rintro i H' _ ⟨sI, _⟩
      exact SqL.of (sI _ _ eL)
    · rintro i x H' hx ⟨sI, eD⟩
      rw [List.getElem?_map] at hx
      obtain ⟨z, hzi, rfl⟩ := Option.map_eq_some_iff.mp hx
      obtain ⟨hi, _⟩ := List.getElem?_eq_some_iff.mp hzi
      obtain ⟨y, t, hy, hyt, hts⟩ := hm z (List.mem_of_getElem? hzi)
      have g1 := DGet.k (k := Sum.inr z) (sI _ _ hd)
      rw [hy] at g1
      refine ⟨rfl, _, rfl, _, rfl, d, _, rfl, g1, true, rfl, ?_⟩
      refine ⟨_, rfl, _, rfl, d, y, rfl, g1, y, t, rfl, hyt.mono (TK.of_same sI), hts, fun H2 s2 => ⟨_, s2 _ _ eD, by rw [List.length_replicate, sizeLine_eq]; omega, same_over (sI.trans s2) hD, by rw [upd_same, ← List.replicate_succ']⟩⟩
    · rintro H1 ⟨s1, eD⟩
      have rep : (List.replicate (ys.map V.str).length true).all id = true := by
        rw [List.all_eq_true]
        intro b hb
        exact (List.mem_replicate.mp hb).2
      exact ⟨D, List.replicate (ys.map V.str).length true, rfl, SqL.of (by rw [eD, List.map_replicate]), true, congrArg V.bl rep, iteF (k H1 s1)⟩
theorem nodup_eq_len {xs ys : List Str} (h : xs.Nodup) (h' : ys.Nodup) (m : ∀ z, z ∈ xs ↔ z ∈ ys) : xs.length = ys.length :=
  Nat.le_antisymm (KT.nodup_len xs ys h fun x hx => (m x).mp hx) (KT.nodup_len ys xs h' fun x hx => (m x).mpr hx)
def spPutFor (PF PT PP : Addr) : Sp := fun vs H Q _ => ∃ (v : V) (t : Ty) (d : Addr) (kvs : List (Key × V)) (ks : List Str) (m : Str → Ty), vs = [v, .ref d] ∧ TyAt H v t ∧ t.size ≤ 4000 ∧ Tabs (T3 PF PT PP) H ∧ H d = some (.dK kvs) ∧
  kvs.length = ks.length ∧ ks.Nodup ∧ (∀ z, z ∈ ks ↔ z ∈ t.words) ∧ (∀ z ∈ t.words, ∃ x, valV kvs (Sum.inr z) = some x ∧ TyAt H x (m z) ∧ (m z).size ≤ 1000000) ∧ ∀ v' H', ExtN H H' → Tabs (T3 PF PT PP) H' → TyAt H' v' (t.put m) → Q v' H'
theorem ok_putFor {f fpu ff fi fn fp cI fc fcm fpi fk fis fss fws : Addr} {fd fdpu fdf fdi fdn fdp fdc fdcm fdpi fdk fdis fdss fdws : FuncData} (T : Top K mg "put_for" sPutFor pPutFor f fd) (TU : TopC K mg "put_in" sPutIn pPutIn fpu fdpu cP)
    (U : TFs K mg base ff fi fn fp cI cF cT cP PF PT PP fdf fdi fdn fdp) (TCM : Top K mg "check_map" sCheckMap pCheckMap fcm fdcm) (TPI : Top K mg "plains_in" sPlainsIn pPlainsIn fpi fdpi) (UK : TKs K mg fk fn fp fc fdk fdn fdp fdc) (I : TIs K mg fis fss fws fdis fdss fdws) :
    FnOk P w K mg base L2.CX0 6 f fd pPutFor (spPutFor PF PT PP) := by
  have GU : FnOk P w K mg base L2.CX0 5 fpu fdpu pPutIn (spPutIn PF PT PP) := ok_putIn TU U I.B
  have GC : FnOk P w K mg base L2.CX0 3 fc fdc pCheckKind spCheckKind := ok_checkKind UK.TC I
  have GM : FnOk P w K mg base L2.CX0 3 fcm fdcm pCheckMap spCheckMap := ok_checkMap TCM I
  have GP : FnOk P w K mg base L2.CX0 4 fpi fdpi pPlainsIn spPlainsIn := ok_plainsIn TPI UK I.B
  have TC := UK.TC
  have TUT := TU.T
  refine T.F.ok scPutFor (fun vs H Q E h => ?_) (fun cdv A outer s H vs Q E hr h => ?_)
  · obtain ⟨_, _, _, _, _, _, rfl, _⟩ := h
    rfl
  · obtain ⟨v, t, d, kvs, ks, m, rfl, ht, hz, hT, hd, hl, nd, hk, hm, k⟩ := h
    have hr3 : Room 3 _ := hr.mono (by decide)
    have hr4 : Room 4 _ := hr.mono (by decide)
    refine ⟨_, (pss_cons (ps_expr (pe_call GC hr3 rfl TC.g TC.F.kp TC.b .nil pass0 (pa_cons (pv 0) pa_nil)))
      (pss_cons (ps_expr (pe_call GM hr3 rfl TCM.g TCM.F.kp TCM.b .nil pass0 (pa_cons (pv 1) (pa_cons (pe_call GP hr4 rfl TPI.g TPI.F.kp TPI.b .nil pass0 (pa_cons (pe_lst (pa_cons (pv 0) pa_nil)) pa_nil)) pa_nil))))
      (pss_one (ps_ret (pe_call GU hr rfl TUT.g TUT.F.kp TUT.b .nil pass0 (pa_cons (pv 0) (pa_cons (pv 1) pa_nil))))))), ?_⟩
    refine ⟨v, rfl, v, t, rfl, ht, by omega, fun H1 s1 => ⟨_, rfl, v, rfl, by show 1 ≤ sizeLine; rw [sizeLine_eq]; omega, fun p hp => ?_⟩⟩
    have s2 : Same H (upd H1 p (.lst [v])) := s1.trans (same_upd hp)
    refine ⟨p, [v], [t], rfl, upd_same, .cons (ht.mono (TK.of_same s2)) .nil, by simp [sizes]; omega, fun R ys H3 hys s3 nR eR => ?_⟩
    have s13 : Same H H3 := s2.trans s3
    have mem : ∀ z, z ∈ ys ↔ z ∈ t.words := fun z => (hys.mem z).trans (by simp)
    have ly : ys.length = ks.length := nodup_eq_len hys.nd nd fun z => (mem z).trans (hk z).symm
    have lb : ys.length ≤ t.words.length := KT.nodup_len _ _ hys.nd fun z hz => (mem z).mp hz
    have lw := t.words_len
    have ls := t.size_signs
    refine ⟨d, R, kvs, ys, rfl, s13 _ _ hd, eR, by omega, by omega, fun z hz' => ?_, fun H4 s4 => ?_⟩
    · obtain ⟨x, h1, h2, h3⟩ := hm z ((mem z).mp hz')
      exact ⟨x, m z, h1, h2.mono (TK.of_same s13), h3⟩
    · have s14 := s13.trans s4
      refine ⟨_, rfl, _, rfl, v, t, d, kvs, m, rfl, ht.mono (TK.of_same s14), by omega, hT.ext s14, s14 _ _ hd, fun z hz' => ?_, fun v' H' e' T' hv' => k v' H' ((ExtN.of_same s14).trans e') T' hv'⟩
      obtain ⟨x, h1, h2, _⟩ := hm z hz'
      exact ⟨x, h1, h2.mono (TK.of_same s14)⟩
end
end K3

namespace K3
open PySem PySem.Spec PyProof.Rows L2 KT
open PySem.W (Frag)
section
variable {P : Program} {w : World} {K : Frag} {mg : Str → Option Value} {base : Heap}
def spLPut (d : Nat) : Sp := fun vs H Q _ => ∃ (v : V) (t : Ty) (dd : Addr) (kvs : List (Key × V)) (m : Str → Ty), vs = [v, .ref dd] ∧ TyAt H v t ∧ t.signs ≤ d ∧ H dd = some (.dK kvs) ∧ (∀ z ∈ t.words, ∃ x, valV kvs (Sum.inr z) = some x ∧ TyAt H x (m z)) ∧
  ∀ v' H', Same H H' → TyAt H' v' (t.put m) → Q v' H'
theorem ok_lput {f : Addr} {fd : FuncData} (T : Top K mg "_law_put" sLPut pLPut f fd) (B : Blt mg) : ∀ d : Nat, d ≤ 30 → FnOk P w K mg base L2.CX0 (1 + d) f fd pLPut (spLPut d)
  | 0, _ => by
    refine T.F.ok scLPut (fun vs H Q E h => ?_) (fun cdv A outer s H vs Q E hr h => ?_)
    · obtain ⟨_, _, _, _, _, rfl, _⟩ := h
      rfl
    · obtain ⟨v, t, dd, kvs, m, rfl, ht, hd, hdd, hm, k⟩ := h
      have hu := hu_of hr
      refine ⟨_, (pss_one (ps_ret (pe_ifExp (pt_val (pe_callB call_isi (by rfl) B.isi (by decide +kernel) (pa_cons (pv 0) (pa_cons (pe_bltn (v := .ty "str") (by rfl) B.str_ (by decide +kernel) rfl) pa_nil)))) (pe_dget hu (pv 1) (pv 0) (fun _ _ => rfl)) pe_never))), ?_⟩
      cases ht with
      | @w z h =>
        obtain ⟨x, hx, hxt⟩ := hm z (by simp [Ty.words])
        have g1 := DGet.k (k := Sum.inr z) hdd
        rw [hx] at g1
        exact ⟨_, rfl, _, _, _, _, true, rfl, .ty "str", .base (.str z), kit_ty (by decide +kernel), true, rfl, iteT ⟨_, rfl, _, rfl, dd, x, rfl, g1, k x H (Same.refl H) hxt⟩⟩
      | @n p g x y a b e h1 h2 =>
        simp only [Ty.signs] at hd
        omega
  | d + 1, hd => by
    have GP : FnOk P w K mg base L2.CX0 (1 + d) f fd pLPut (spLPut d) := ok_lput T B d (by omega)
    refine T.F.ok (k := 1 + d) scLPut (fun vs H Q E h => ?_) (fun cdv A outer s H vs Q E hr h => ?_)
    · obtain ⟨_, _, _, _, _, rfl, _⟩ := h
      rfl
    · obtain ⟨v, t, dd, kvs, m, rfl, ht, hd', hdd, hm, k⟩ := h
      have hu := hu_of hr
      refine ⟨_, (pss_one (ps_ret (pe_ifExp (pt_val (pe_callB call_isi (by rfl) B.isi (by decide +kernel) (pa_cons (pv 0) (pa_cons (pe_bltn (v := .ty "str") (by rfl) B.str_ (by decide +kernel) rfl) pa_nil)))) (pe_dget hu (pv 1) (pv 0) (fun _ _ => rfl))
        (pe_tup (pa_cons (pe_ix ix_tup (pv 0) pe_int (fun _ _ => rfl)) (pa_cons (pe_call GP hr rfl T.g T.F.kp T.b .nil pass0 (pa_cons (pe_ix ix_tup (pv 0) pe_int (fun _ _ => rfl)) (pa_cons (pv 1) pa_nil))) (pa_cons (pe_call GP hr rfl T.g T.F.kp T.b .nil pass0 (pa_cons (pe_ix ix_tup (pv 0) pe_int (fun _ _ => rfl)) (pa_cons (pv 1) pa_nil))) pa_nil))))))), ?_⟩
      cases ht with
      | @w z h =>
        obtain ⟨x, hx, hxt⟩ := hm z (by simp [Ty.words])
        have g1 := DGet.k (k := Sum.inr z) hdd
        rw [hx] at g1
        exact ⟨_, rfl, _, _, _, _, true, rfl, .ty "str", .base (.str z), kit_ty (by decide +kernel), true, rfl, iteT ⟨_, rfl, _, rfl, dd, x, rfl, g1, k x H (Same.refl H) hxt⟩⟩
      | @n p g x y a b e h1 h2 =>
        simp only [Ty.signs] at hd'
        refine ⟨_, rfl, _, _, _, _, false, rfl, .ty "str", .base (.tup e), kit_ty (by decide +kernel), false, rfl, iteF ?_⟩
        refine ⟨_, rfl, p, _, _, _, rfl, rfl, SqT.of e, atI_nat (j := 0) rfl, ?_⟩
        refine ⟨_, rfl, p, _, _, _, rfl, rfl, SqT.of e, atI_nat (j := 1) rfl, _, rfl, x, a, dd, kvs, m, rfl, h1, by omega, hdd, fun z hz => hm z (List.mem_append.mpr (.inl hz)), fun x' H2 s2 hx' => ?_⟩
        refine ⟨_, rfl, p, _, _, _, rfl, rfl, SqT.of (s2 _ _ e), atI_nat (j := 2) rfl, _, rfl, y, b, dd, kvs, m, rfl, h2.mono (TK.of_same s2), by omega, s2 _ _ hdd, fun z hz => ?_, fun y' H3 s3 hy' => ?_⟩
        · obtain ⟨u, h3, h4⟩ := hm z (List.mem_append.mpr (.inr hz))
          exact ⟨u, h3, h4.mono (TK.of_same s2)⟩
        · refine ⟨by show 3 ≤ sizeLine; rw [sizeLine_eq]; omega, fun r nr => ?_⟩
          exact k _ _ ((s2.trans s3).trans (same_upd nr)) (.n upd_same (hx'.mono ((TK.of_same s3).trans (TK.upd_new nr))) (hy'.mono (TK.upd_new nr)))
end
end K3

namespace K3
open PySem PySem.Spec PyProof.Rows L2 KT
open PySem.W (Frag)
section
variable {P : Program} {w : World} {K : Frag} {mg : Str → Option Value} {base : Heap}
def spShuffled : Sp := fun vs H Q _ => ∃ (a L : Addr) (n : Nat) (ws : List Str), vs = [.ref a, .ref L] ∧ PurseAt H a n ∧ n ≤ 500000000000 ∧ L ≠ a ∧ H L = some (.lst (ws.map V.str)) ∧ ws.length ≤ 1000 ∧
  ∀ (R : Addr) (ys : List Str) (H' : Hp), ys.Perm ws → KeepBut a H H' → H R = none → H' R = some (.lst (ys.map V.str)) → PurseAt H' a (n + ws.length) → Q (.ref R) H'
theorem ok_shuffled {f fd_ fm : Addr} {fd fdd fdm : FuncData} (T : Top K mg "_law_shuffled" sLShuffled pLShuffled f fd) (TD : Top K mg "_law_draw" sLDraw ["purse", "many"] fd_ fdd) (TM : Top K mg "_law_mixed" sLMixed ["seed", "spin", "at"] fm fdm) (B : Blt mg) :
    FnOk P w K mg base CX0 3 f fd pLShuffled spShuffled := by
  have GD : FnOk P w K mg base CX0 2 fd_ fdd ["purse", "many"] spDraw := ok_draw TD TM B
  refine T.F.ok scLShuffled (fun vs H Q E h => ?_) (fun cdv A outer s H vs Q E hr h => ?_)
  · obtain ⟨_, _, _, _, rfl, _⟩ := h
    rfl
  · obtain ⟨a, L, n, ws, rfl, hp, hn, nLa, eL, hz, k⟩ := h
    refine ⟨_, (pss_cons (ps_set (i := 2) scLShuffled.nd rfl (Or.inl rfl) (pe_lst pa_nil))
      (pss_cons (ps_for PassesOwn.never rfl (pi_list (pv 1)) (pg_name (i := 3) scLShuffled.nd rfl (Or.inl rfl))
        (pss_one (ps_expr (pe_bm PySem.F.plainAttrs_list PySem.F.slot_list_insert PySem.F.type_list_insert mt_insert (pv 2) (pa_cons (pe_call GD hr rfl TD.g TD.F.kp TD.b .nil pass0 (pa_cons (pv 0) (pa_cons (pe_op op_add (pe_callB call_len_seq (by rfl) B.len PySem.boot_len (pa_cons (pv 2) pa_nil)) pe_int) pa_nil))) (pa_cons (pv 3) pa_nil))))))
      (pss_one (ps_ret (pv 2))))), ?_⟩
    refine ⟨by show 0 ≤ sizeLine; exact Nat.zero_le _, fun R hR => ?_⟩
    have naR := hp.ne hR
    have nLR : L ≠ R := ne_of_none eL hR
    refine ⟨_, rfl, L, rfl, ⟨_, SqL.of (by rw [upd_ne nLR]; exact eL)⟩, ?_⟩
    refine for_list (K := K) (xs := ws.map V.str) (fun i σ H' => ∃ (v3 : Option V) (ys : List Str), σ = [some (.ref a), some (.ref L), some (.ref R), v3] ∧ ys.Perm (ws.take i) ∧ KeepBut a H H' ∧ H' R = some (.lst (ys.map V.str)) ∧ PurseAt H' a (n + i))
      ⟨none, [], rfl, by simp, (KeepBut.refl a H).upd_new hR, upd_same, hp.upd naR⟩ ?_ ?_ ?_
    · rintro i σ H' _ ⟨v3, ys, rfl, pm, kb, eR, hp'⟩
      exact SqL.of (kb _ _ eL nLa)
    · rintro i x σ H' hx ⟨v3, ys, rfl, pm, kb, eR, hp'⟩
      rw [List.getElem?_map] at hx
      obtain ⟨z, hzi, rfl⟩ := Option.map_eq_some_iff.mp hx
      obtain ⟨hi, _⟩ := List.getElem?_eq_some_iff.mp hzi
      have ly := pm.length_eq
      rw [List.length_take] at ly
      refine ⟨_, rfl, .inl ⟨rfl, _, SqL.of eR⟩, _, rfl, _, rfl, R, _, rfl, .inl (SqL.of eR), _, _, rfl, rfl, a, n + i, _, rfl, hp', by omega, by rw [List.length_map]; omega, by rw [List.length_map]; omega, fun d H2 c0 c1 off2 hp2 => ?_⟩
      rw [List.length_map] at c1
      refine ⟨_, rfl, R, _, d, _, rfl, rfl, by rw [off2 R naR.symm]; exact eR, by rw [List.length_map, sizeLine_eq]; omega, c0, by omega, ?_⟩
      refine ⟨_, ys.take d.toNat ++ [z] ++ ys.drop d.toNat, rfl, ?_, (kb.trans (.of_off off2)).upd_new hR, by rw [upd_same]; simp, (hp2.upd naR)⟩
      have q1 : (ys.take d.toNat ++ [z] ++ ys.drop d.toNat).Perm (ys ++ [z]) := by
        have q : (ys.take d.toNat ++ [z] ++ ys.drop d.toNat).Perm (ys.take d.toNat ++ (ys.drop d.toNat ++ [z])) := by
          rw [List.append_assoc]
          exact List.Perm.append_left _ List.perm_append_comm
        rw [← List.append_assoc, List.take_append_drop] at q
        exact q
      rw [List.take_add_one, hzi]
      exact q1.trans (pm.append_right _)
    · rintro σ H' ⟨v3, ys, rfl, pm, kb, eR, hp'⟩
      rw [List.length_map] at hp' pm
      rw [List.take_length] at pm
      exact ⟨_, rfl, k R ys H' pm kb hR eR hp'⟩
end
end K3

namespace K3
open PySem PySem.Spec PyProof.Rows L2 KT
open PySem.W (Frag)
/-- all types of a sign more, from the table of those with fewer -/
def made (T : List (List Ty)) : List Ty := [Sg.ov, .th, .un].flatMap fun g => (List.range T.length).flatMap fun a => (T.getD a []).flatMap fun x => (T.getD (T.length - 1 - a) []).map fun y => .n g x y
def tab (zs : List Str) : Nat → List (List Ty)
  | 0 => [zs.map Ty.w]
  | n + 1 => tab zs n ++ [made (tab zs n)]
def allK (zs : List Str) (n : Nat) : List Ty := (tab zs n).getD n []
theorem flatMap_eq {α β : Type} {f g : α → List β} : ∀ {l : List α}, (∀ a ∈ l, f a = g a) → l.flatMap f = l.flatMap g
  | [], _ => rfl
  | a :: l, h => by
    rw [List.flatMap_cons, List.flatMap_cons, h a List.mem_cons_self, flatMap_eq fun b hb => h b (List.mem_cons_of_mem _ hb)]
theorem tab_len (zs : List Str) : ∀ n, (tab zs n).length = n + 1
  | 0 => rfl
  | n + 1 => by rw [tab, List.length_append, tab_len zs n]; rfl
theorem tab_at (zs : List Str) : ∀ (n j : Nat), j ≤ n → (tab zs n).getD j [] = allK zs j
  | 0, j, h => by
    obtain rfl : j = 0 := by omega
    rfl
  | n + 1, j, h => by
    by_cases e : j = n + 1
    · rw [e]
      rfl
    · rw [tab, List.getD_eq_getElem?_getD, List.getElem?_append_left (by rw [tab_len]; omega), ← List.getD_eq_getElem?_getD]
      exact tab_at zs n j (by omega)
theorem allK_succ (zs : List Str) (n : Nat) : allK zs (n + 1) = [Sg.ov, .th, .un].flatMap fun g => (List.range (n + 1)).flatMap fun a => (allK zs a).flatMap fun x => (allK zs (n - a)).map fun y => .n g x y := by
  have e : allK zs (n + 1) = made (tab zs n) := by
    unfold allK
    rw [tab, List.getD_eq_getElem?_getD, List.getElem?_append_right (by rw [tab_len]; exact Nat.le_refl _), tab_len]
    simp
  rw [e]
  unfold made
  rw [tab_len]
  congr 1
  funext g
  refine flatMap_eq fun a ha => ?_
  have hl := List.mem_range.mp ha
  rw [tab_at zs n a (by omega), tab_at zs n _ (by omega)]
  have : n + 1 - 1 - a = n - a := by omega
  rw [this]
theorem flat_take {α β : Type} (f : α → List β) : ∀ (l : List α) (i : Nat) (x : α), l[i]? = some x → ((l.take i).flatMap f).length + (f x).length ≤ (l.flatMap f).length
  | [], _, _, h => by simp at h
  | a :: l, 0, x, h => by
    have e := Option.some.inj (show some a = some x from h)
    subst e
    rw [List.flatMap_cons, List.length_append]
    simp
  | a :: l, i + 1, x, h => by
    have q := flat_take f l i x (by simpa using h)
    rw [List.take_succ_cons, List.flatMap_cons, List.flatMap_cons, List.length_append, List.length_append]
    omega
theorem flat_snoc {α β : Type} (f : α → List β) (l : List α) (i : Nat) (x : α) (h : l[i]? = some x) : (l.take (i + 1)).flatMap f = (l.take i).flatMap f ++ f x := by
  rw [List.take_add_one, h, List.flatMap_append]
  simp
section
variable {P : Program} {w : World} {K : Frag} {mg : Str → Option Value} {base : Heap}
def spInOrder (d : Nat) : Sp := fun vs H Q _ => ∃ (L : Addr) (n : Nat) (zs : List Str), vs = [.ref L, .int n] ∧ n ≤ d ∧ H L = some (.lst (zs.map V.str)) ∧ (∀ z ∈ zs, IsW z) ∧ zs.length ≤ 100000 ∧ (∀ j, j ≤ n → (allK zs j).length ≤ 100000) ∧
  ∀ (R : Addr) (us : List V) (H' : Hp), Same H H' → H R = none → H' R = some (.lst us) → Tys H' us (allK zs n) → Q (.ref R) H'
theorem tys_plains {H : Hp} : ∀ {zs : List Str}, (∀ z ∈ zs, IsW z) → Tys H (zs.map V.str) (zs.map Ty.w)
  | [], _ => .nil
  | z :: r, h => .cons (.w (h z List.mem_cons_self)) (tys_plains fun y hy => h y (List.mem_cons_of_mem _ hy))
theorem ok_inOrder {f : Addr} {fd : FuncData} (T : Top K mg "_law_in_order" sLInOrder pLInOrder f fd) (B : Blt mg) : ∀ d : Nat, d ≤ 30 → FnOk P w K mg base L2.CX0 (1 + d) f fd pLInOrder (spInOrder d)
  | 0, _ => by
    refine T.F.ok scLInOrder (fun vs H Q E h => ?_) (fun cdv A outer s H vs Q E hr h => ?_)
    · obtain ⟨_, _, _, rfl, _⟩ := h
      rfl
    · obtain ⟨L, n, zs, rfl, hn, eL, hw, hz, hb, k⟩ := h
      obtain rfl : n = 0 := by omega
      refine ⟨_, pss_cons (ps_if (pt_cmpR op_eq (pv 1) pe_int (nomark _)) (pss_one (ps_ret (pe_callTy call_list_of (by rfl) B.list (by decide +kernel) (pa_cons (pv 0) pa_nil)))) pss_nil) pss_never, ?_⟩
      exact ⟨_, rfl, rfl, true, rfl, iteT ⟨_, rfl, L, _, rfl, .inl (SqL.of eL), fun p hp => k p _ _ (same_upd hp) hp upd_same (tys_plains hw)⟩⟩
  | d + 1, hd => by
    have GI : FnOk P w K mg base L2.CX0 (1 + d) f fd pLInOrder (spInOrder d) := ok_inOrder T B d (by omega)
    refine T.F.ok (k := 1 + d) scLInOrder (fun vs H Q E h => ?_) (fun cdv A outer s H vs Q E hr h => ?_)
    · obtain ⟨_, _, _, rfl, _⟩ := h
      rfl
    · obtain ⟨L, n, zs, rfl, hn, eL, hw, hz, hb, k⟩ := h
      refine ⟨_, (pss_cons (ps_if (pt_cmpR op_eq (pv 1) pe_int (nomark _)) (pss_one (ps_ret (pe_callTy call_list_of (by rfl) B.list (by decide +kernel) (pa_cons (pv 0) pa_nil)))) pss_nil)
      (pss_cons (ps_set (i := 2) scLInOrder.nd rfl (Or.inl rfl) (pe_lst pa_nil))
      (pss_cons (ps_for PassesOwn.never rfl (pi_tup (pe_tup (pa_cons pe_str (pa_cons pe_str (pa_cons pe_str pa_nil))))) (pg_name (i := 3) scLInOrder.nd rfl (Or.inr rfl))
          (pss_one (ps_for PassesOwn.never rfl (pi_range1 (by rfl) B.range (pa_cons (pv 1) pa_nil)) (pg_name (i := 4) scLInOrder.nd rfl (Or.inl rfl))
            (pss_cons (ps_set (i := 5) scLInOrder.nd rfl (Or.inl rfl) (pe_call GI hr rfl T.g T.F.kp T.b .nil pass0 (pa_cons (pv 0) (pa_cons (pe_op op_sub (pe_op op_sub (pv 1) pe_int) (pv 4)) pa_nil))))
      (pss_one (ps_for PassesOwn.never rfl (pi_list (pe_call GI hr rfl T.g T.F.kp T.b .nil pass0 (pa_cons (pv 0) (pa_cons (pv 4) pa_nil)))) (pg_name (i := 6) scLInOrder.nd rfl (Or.inr rfl))
                (pss_one (ps_set (i := 2) scLInOrder.nd rfl (Or.inl rfl) (pe_op op_cat (pv 2) (pe_lc (own := [("other", 7)]) (g := gName 7) (tt := tYes) rfl scLInOrder.nd (pi_list (pv 5)) (blkOk_by (N := nLInOrder) (sc := defScope sLInOrder) (by decide +kernel)) (fun _ _ _ _ _ => pg_name (i := 7) scLInOrder.nd rfl (Or.inl rfl)) (fun _ _ _ _ _ => pts_nil) (fun _ _ _ _ _ => (pe_tup (pa_cons (pv 3) (pa_cons (pv 6) (pa_cons (pv 7) pa_nil)))))))))))))))
      (pss_one (ps_ret (pv 2)))))), ?_⟩
      refine ⟨_, rfl, rfl, _, rfl, ite2 (fun c => ?_) (fun c => ?_)⟩
      · have e0 : (V.int (n : Int)) = V.int 0 := of_decide_eq_true c
        obtain rfl : n = 0 := by
          injection e0 with e0
          omega
        exact ⟨_, rfl, L, _, rfl, .inl (SqL.of eL), fun p hp => k p _ _ (same_upd hp) hp upd_same (tys_plains hw)⟩
      · obtain ⟨m, rfl⟩ : ∃ m, n = m + 1 := ⟨n - 1, by have : n ≠ 0 := fun e => c (by rw [e]; rfl); omega⟩
        have hbm := hb (m + 1) (Nat.le_refl _)
        refine ⟨by show 0 ≤ sizeLine; exact Nat.zero_le _, fun R0 hR0 => ?_⟩
        refine ⟨by show 3 ≤ sizeLine; rw [sizeLine_eq]; omega, fun tp htp => ⟨tp, rfl, ⟨_, SqT.of upd_same⟩, ?_⟩⟩
        have s0 : Same H (upd (upd H R0 (.lst [])) tp (.tup [.str "over", .str "then", .str "under"])) := (same_upd hR0).trans (same_upd htp)
        have nRt : R0 ≠ tp := ne_of_none upd_same htp
        let part (gs : List Sg) : List Ty := gs.flatMap fun g => (List.range (m + 1)).flatMap fun a => (allK zs a).flatMap fun x => (allK zs (m - a)).map fun y => .n g x y
        refine for_tup (K := K) (xs := [.str "over", .str "then", .str "under"]) (fun i σ H' => ∃ (v3 v4 v5 v6 v7 : Option V) (R : Addr) (us : List V), σ = [some (.ref L), some (.int ((m + 1 : Nat) : Int)), some (.ref R), v3, v4, v5, v6, v7] ∧ Same H H' ∧ H R = none ∧ H' R = some (.lst us) ∧ H' tp = some (.tup [.str "over", .str "then", .str "under"]) ∧ Tys H' us (part ([Sg.ov, .th, .un].take i)))
          ⟨none, none, none, none, none, R0, [], rfl, s0, hR0, by rw [upd_ne nRt, upd_same], upd_same, .nil⟩ ?_ ?_ ?_
        · rintro i σ H' _ ⟨_, _, _, _, _, _, _, _, _, _, _, e, _⟩
          exact SqT.of e
        · rintro i x σ H' hx ⟨v3, v4, v5, v6, v7, R, us, rfl, sI, nR, eR, eT, hT⟩
          obtain ⟨g, hg, rfl⟩ : ∃ g, [Sg.ov, .th, .un][i]? = some g ∧ x = .str g.str := by
            match i, hx with
            | 0, hx => exact ⟨.ov, rfl, (Option.some.inj hx).symm⟩
            | 1, hx => exact ⟨.th, rfl, (Option.some.inj hx).symm⟩
            | 2, hx => exact ⟨.un, rfl, (Option.some.inj hx).symm⟩
            | j + 3, hx => exact absurd hx (by simp)
          let F : Nat → List Ty := fun a => (allK zs a).flatMap fun x => (allK zs (m - a)).map fun y => .n g x y
          have b1 : (part ([Sg.ov, .th, .un].take i)).length + ((List.range (m + 1)).flatMap F).length ≤ 100000 := by
            have q := flat_take (fun g => (List.range (m + 1)).flatMap fun a => (allK zs a).flatMap fun x => (allK zs (m - a)).map fun y => Ty.n g x y) _ i g hg
            rw [allK_succ] at hbm
            exact Nat.le_trans q hbm
          refine ⟨_, rfl, ((m + 1 : Nat) : Int), rfl, by omega, by omega, ?_⟩
          refine for_range (lo := 0) (n := m + 1) (fun a σ H' => ∃ (v4 v5 v6 v7 : Option V) (R : Addr) (us : List V), σ = [some (.ref L), some (.int ((m + 1 : Nat) : Int)), some (.ref R), some (.str g.str), v4, v5, v6, v7] ∧ Same H H' ∧ H R = none ∧ H' R = some (.lst us) ∧ H' tp = some (.tup [.str "over", .str "then", .str "under"]) ∧ Tys H' us (part ([Sg.ov, .th, .un].take i) ++ (List.range a).flatMap F))
            ⟨v4, v5, v6, v7, R, us, rfl, sI, nR, eR, eT, by simpa using hT⟩ ?_ ?_
          · rintro a σ H1 ha ⟨v4, v5, v6, v7, R, us, rfl, s1, nR, eR, eT, hT⟩
            have b2 : ((List.range a).flatMap F).length + (F a).length ≤ ((List.range (m + 1)).flatMap F).length := by
              have q := flat_take F (List.range (m + 1)) a a (by rw [List.getElem?_range ha])
              rw [List.take_range, Nat.min_eq_left (by omega)] at q
              exact q
            have e1 : ((m + 1 : Nat) : Int) - 1 - ((0 : Int) + (a : Int)) = ((m - a : Nat) : Int) := by omega
            have e2 : (0 : Int) + (a : Int) = ((a : Nat) : Int) := by omega
            refine ⟨_, rfl, _, rfl, _, _, rfl, rfl, _, rfl, _, _, rfl, rfl, L, m - a, zs, congrArg (fun e => [V.ref L, V.int e]) e1, by omega, s1 _ _ eL, hw, hz, fun j hj => hb j (by omega), fun R2 us2 H2 s2 nR2 eR2 hT2 => ?_⟩
            refine ⟨_, rfl, _, rfl, L, a, zs, congrArg (fun e => [V.ref L, V.int e]) e2, by omega, s2 _ _ (s1 _ _ eL), hw, hz, fun j hj => hb j (by omega), fun R3 us3 H3 s3 nR3 eR3 hT3 => ⟨R3, rfl, ⟨_, SqL.of eR3⟩, ?_⟩⟩
            have l3 := hT3.length
            have s13 : Same H1 H3 := s2.trans s3
            refine for_list (K := K) (xs := us3) (fun kk σ H' => ∃ (v6 v7 : Option V) (R : Addr) (us : List V), σ = [some (.ref L), some (.int ((m + 1 : Nat) : Int)), some (.ref R), some (.str g.str), some (.int ((0 : Int) + (a : Int))), some (.ref R2), v6, v7] ∧ Same H H' ∧ H R = none ∧ H' R = some (.lst us) ∧ H' tp = some (.tup [.str "over", .str "then", .str "under"]) ∧ H' R2 = some (.lst us2) ∧ Tys H' us2 (allK zs (m - a)) ∧ H' R3 = some (.lst us3) ∧ Tys H' us3 (allK zs a) ∧
                Tys H' us (part ([Sg.ov, .th, .un].take i) ++ (List.range a).flatMap F ++ ((allK zs a).take kk).flatMap fun x => (allK zs (m - a)).map fun y => .n g x y))
              ⟨v6, v7, R, us, rfl, s1.trans s13, nR, s13 _ _ eR, s13 _ _ eT, s3 _ _ eR2, hT2.mono (TK.of_same s3), eR3, hT3, by simpa using hT.mono (TK.of_same s13)⟩ ?_ ?_ ?_
            · rintro kk σ H' _ ⟨_, _, _, _, _, _, _, _, _, _, _, e, _⟩
              exact SqL.of e
            · rintro kk x σ H4 hx ⟨v6, v7, R, us, rfl, s4, nR, eR, eT, e2', hT2', e3', hT3', hT⟩
              obtain ⟨tx, htx, hxt⟩ := hT3'.at_ hx
              have b3 : (((allK zs a).take kk).flatMap fun x => (allK zs (m - a)).map fun y => Ty.n g x y).length + (allK zs (m - a)).length ≤ (F a).length := by
                have q := flat_take (fun x => (allK zs (m - a)).map fun y => Ty.n g x y) (allK zs a) kk tx htx
                rw [List.length_map] at q
                exact q
              have lu := hT.length
              rw [List.length_append, List.length_append] at lu
              have l2 := hT2'.length
              refine ⟨_, rfl, _, rfl, R2, rfl, ⟨_, SqL.of e2'⟩, fun D hD => ?_⟩
              refine lc_list (K := K) (xs := us2) (fun j H' => ∃ qs, Same H4 H' ∧ H' D = some (.lst qs) ∧ Tys H' qs (((allK zs (m - a)).take j).map fun y => .n g tx y)) ⟨[], same_upd hD, upd_same, .nil⟩ ?_ ?_ ?_
              · rintro j H' _ ⟨qs, sj, _⟩
                exact SqL.of (sj _ _ e2')
              · rintro j y H' hy ⟨qs, sj, eD, hq⟩
                obtain ⟨ty, hty, hyt⟩ := hT2'.at_ hy
                have lq := hq.length
                rw [List.length_map, List.length_take] at lq
                refine ⟨rfl, _, rfl, _, rfl, _, rfl, by show 3 ≤ sizeLine; rw [sizeLine_eq]; omega, fun p hp => ⟨qs, by rw [upd_ne (ne_of_none eD hp)]; exact eD, by rw [sizeLine_eq]; omega, qs ++ [.ref p], same_over (sj.trans (same_upd hp)) hD, upd_same, ?_⟩⟩
                have tkA : TK H' (upd (upd H' p (.tup [.str g.str, x, y])) D (.lst (qs ++ [.ref p]))) := (TK.upd_new hp).trans (TK.upd_lst (by rw [upd_ne (ne_of_none eD hp)]; exact eD))
                have tk4 := (TK.of_same sj).trans tkA
                rw [map_snoc _ _ _ _ hty]
                exact (hq.mono tkA).snoc (.n (by rw [upd_ne (ne_of_none eD hp).symm, upd_same]) (hxt.mono tk4) (hyt.mono tk4))
              · rintro H5 ⟨qs, s5, eD, hq⟩
                rw [l2, List.take_length] at hq
                have lq := hq.length
                rw [List.length_map] at lq
                refine ⟨R, D, us, qs, rfl, rfl, s5 _ _ eR, eD, by rw [sizeLine_eq]; omega, fun q nq => ?_⟩
                have s6 : Same H4 (upd H5 q (.lst (us ++ qs))) := s5.trans (same_upd nq)
                have tk6 := TK.of_same s6
                refine ⟨_, _, q, us ++ qs, rfl, s4.trans s6, (s4.trans s5).free nq, upd_same, s6 _ _ eT, s6 _ _ e2', hT2'.mono tk6, s6 _ _ e3', hT3'.mono tk6, ?_⟩
                rw [flat_snoc _ _ _ _ htx, ← List.append_assoc]
                exact (hT.mono tk6).append (hq.mono (TK.upd_new nq))
            · rintro σ H4 ⟨v6, v7, R, us, rfl, s4, nR, eR, eT, _, _, _, _, hT⟩
              rw [l3, List.take_length] at hT
              refine ⟨_, _, _, _, R, us, rfl, s4, nR, eR, eT, ?_⟩
              rw [List.range_succ, List.flatMap_append, ← List.append_assoc]
              simpa using hT
          · rintro σ H1 ⟨v4, v5, v6, v7, R, us, rfl, s1, nR, eR, eT, hT⟩
            refine ⟨_, _, _, _, _, R, us, rfl, s1, nR, eR, eT, ?_⟩
            show Tys H1 us (([Sg.ov, .th, .un].take (i + 1)).flatMap _)
            rw [flat_snoc _ _ _ _ hg]
            exact hT
        · rintro σ H' ⟨v3, v4, v5, v6, v7, R, us, rfl, sI, nR, eR, eT, hT⟩
          refine ⟨_, rfl, k R us H' sI nR eR ?_⟩
          rw [allK_succ]
          exact hT
end
end K3

namespace K3
open PySem PySem.Spec PyProof.Rows L2 KT
open PySem.W (Frag)
/-- the products of a table's entries, from both ends -/
def prods (T : List Int) : List Int := (List.range T.length).map fun a => T.getD a 0 * T.getD (T.length - 1 - a) 0
def cnts (p : Int) : Nat → List Int
  | 0 => [p]
  | n + 1 => cnts p n ++ [3 * (prods (cnts p n)).sum]
theorem cnts_len (p : Int) : ∀ n, (cnts p n).length = n + 1
  | 0 => rfl
  | n + 1 => by rw [cnts, List.length_append, cnts_len p n]; rfl
def CntOk (T : List Int) : Prop := ∀ (i : Nat) (c : Int), T[i]? = some c → c.natAbs < 2 ^ (100 * i + 10)
theorem prod_bd {x y : Int} {a b : Nat} (hx : x.natAbs < 2 ^ a) (hy : y.natAbs < 2 ^ b) : (x * y).natAbs < 2 ^ (a + b) := by
  rw [Int.natAbs_mul, Nat.pow_add]
  exact Nat.mul_lt_mul'' hx hy
theorem sum_bd {b : Nat} : ∀ (l : List Int), (∀ c ∈ l, c.natAbs < 2 ^ b) → l.sum.natAbs ≤ l.length * 2 ^ b
  | [], _ => by simp
  | c :: l, h => by
    have q := sum_bd l fun d hd => h d (List.mem_cons_of_mem _ hd)
    have q2 := h c List.mem_cons_self
    rw [List.sum_cons, List.length_cons, Nat.succ_mul]
    have := Int.natAbs_add_le c l.sum
    omega
theorem prods_bd {T : List Int} {n : Nat} (hl : T.length = n + 1) (h : CntOk T) : ∀ c ∈ prods T, c.natAbs < 2 ^ (100 * n + 20) := by
  intro c hc
  obtain ⟨a, ha, rfl⟩ := List.mem_map.mp hc
  have ha := List.mem_range.mp ha
  have e1 : T[a]? = some (T.getD a 0) := by
    rw [List.getD_eq_getElem?_getD, List.getElem?_eq_getElem ha]
    rfl
  have e2 : T[T.length - 1 - a]? = some (T.getD (T.length - 1 - a) 0) := by
    rw [List.getD_eq_getElem?_getD, List.getElem?_eq_getElem (by omega)]
    rfl
  have q := prod_bd (h _ _ e1) (h _ _ e2)
  have e : 100 * a + 10 + (100 * (T.length - 1 - a) + 10) = 100 * n + 20 := by omega
  rw [e] at q
  exact q
theorem sum_prods {T : List Int} {n : Nat} (hn : n ≤ 25) (hl : T.length = n + 1) (h : CntOk T) : (prods T).sum.natAbs < 2 ^ (100 * n + 30) := by
  have q := sum_bd (prods T) (prods_bd hl h)
  have l : (prods T).length = n + 1 := by unfold prods; rw [List.length_map, List.length_range, hl]
  rw [l] at q
  have e : (2 : Nat) ^ (100 * n + 30) = 2 ^ (100 * n + 20) * 1024 := by rw [show 100 * n + 30 = (100 * n + 20) + 10 by omega, Nat.pow_add]
  have : (n + 1) * 2 ^ (100 * n + 20) ≤ 26 * 2 ^ (100 * n + 20) := Nat.mul_le_mul_right _ (by omega)
  have pos : 0 < (2 : Nat) ^ (100 * n + 20) := Nat.pow_pos (by decide)
  omega
theorem cnts_ok {p : Nat} (hp : p ≤ 3) : ∀ n, n ≤ 25 → CntOk (cnts p n)
  | 0, _ => fun i c h => by
    match i, h with
    | 0, h =>
      obtain rfl := Option.some.inj h
      show ((p : Int)).natAbs < 2 ^ (100 * 0 + 10)
      have : (2 : Nat) ^ (100 * 0 + 10) = 1024 := by decide
      omega
    | i + 1, h => exact absurd h (by simp [cnts])
  | n + 1, hn => fun i c h => by
    have ih := cnts_ok hp n (by omega)
    have l := cnts_len p n
    rw [cnts] at h
    by_cases hi : i < n + 1
    · rw [List.getElem?_append_left (by omega)] at h
      exact ih i c h
    · rw [List.getElem?_append_right (by omega)] at h
      have hi' : i = n + 1 := by
        have := (List.getElem?_eq_some_iff.mp h).1
        simp at this
        omega
      subst hi'
      rw [l] at h
      simp at h
      rw [← h]
      have q := sum_prods (by omega) l ih
      have e : (2 : Nat) ^ (100 * (n + 1) + 10) = 2 ^ (100 * n + 30) * 2 ^ 80 := by rw [← Nat.pow_add, show 100 * (n + 1) + 10 = 100 * n + 30 + 80 by omega]
      rw [Int.natAbs_mul]
      have e80 : (2 : Nat) ^ 80 = 1208925819614629174706176 := by decide
      show 3 * (prods (cnts p n)).sum.natAbs < _
      omega
theorem cnts_pre (p : Int) : ∀ (n j : Nat), j ≤ n → (cnts p n)[j]? = some ((cnts p n).getD j 0) := fun n j h => by
  rw [List.getD_eq_getElem?_getD, List.getElem?_eq_getElem (by rw [cnts_len]; omega)]
  rfl
section
variable {P : Program} {w : World} {K : Frag} {mg : Str → Option Value} {base : Heap}
def spCountTo : Sp := fun vs H Q _ => ∃ (p n : Nat), vs = [.int p, .int n] ∧ p ≤ 3 ∧ n ≤ 25 ∧ ∀ H', Same H H' → Q (.int ((cnts p n).getD n 0)) H'
theorem ok_countTo {f : Addr} {fd : FuncData} (T : Top K mg "_law_count_to" sLCountTo pLCountTo f fd) (B : Blt mg) : FnOk P w K mg base L2.CX0 1 f fd pLCountTo spCountTo := by
  refine T.F.ok scLCountTo (fun vs H Q E h => ?_) (fun cdv A outer s H vs Q E hr h => ?_)
  · obtain ⟨_, _, rfl, _⟩ := h
    rfl
  · obtain ⟨p, n, rfl, hp, hn, k⟩ := h
    refine ⟨_, (pss_cons (ps_set (i := 2) scLCountTo.nd rfl (Or.inr rfl) (pe_lst (pa_cons (pv 0) pa_nil)))
      (pss_cons (ps_for PassesOwn.never rfl (pi_range2 (by rfl) B.range (pa_cons pe_int (pa_cons (pe_op op_add (pv 1) pe_int) pa_nil))) (pg_name (i := 3) scLCountTo.nd rfl (Or.inr rfl))
        (pss_one (ps_expr (pe_bm PySem.F.plainAttrs_list PySem.F.slot_list_append PySem.F.type_list_append mt_append (pv 2) (pa_cons (pe_op op_mulW pe_int (pe_callB (cr_sum rfl) (by rfl) B.sum (by decide +kernel) (pa_cons (pe_lc (own := [("at", 4)]) (g := gName 4) (tt := tYes) rfl scLCountTo.nd (pi_range1 (by rfl) B.range (pa_cons (pv 3) pa_nil)) (blkOk_by (N := nLCountTo) (sc := defScope sLCountTo) (by decide +kernel)) (fun _ _ _ _ _ => pg_name (i := 4) scLCountTo.nd rfl (Or.inl rfl)) (fun _ _ _ _ _ => pts_nil) (fun _ _ _ _ _ => (pe_op op_mulW (pe_ix (show IxR _ (rIxL K) from ix_list) (pv 2) (pv 4) (fun _ _ => rfl)) (pe_ix (show IxR _ (rIxL K) from ix_list) (pv 2) (pe_op op_sub (pe_op op_sub (pv 3) pe_int) (pv 4)) (fun _ _ => rfl))))) pa_nil))) pa_nil)))))
      (pss_one (ps_ret (pe_ix ix_list (pv 2) (pv 1) (fun _ _ => rfl)))))), ?_⟩
    refine ⟨_, rfl, by show 1 ≤ sizeLine; rw [sizeLine_eq]; omega, fun R hR => ?_⟩
    refine ⟨_, rfl, _, _, rfl, rfl, 1, (n : Int) + 1, rfl, ⟨by omega, by omega, by omega, by omega⟩, ?_⟩
    refine for_range (lo := 1) (n := ((n : Int) + 1 - 1).toNat) (fun i σ H' => ∃ (v3 v4 : Option V), σ = [some (.int p), some (.int n), some (.ref R), v3, v4] ∧ Same H H' ∧ H' R = some (.lst ((cnts p i).map V.int)))
      ⟨none, none, rfl, same_upd hR, upd_same⟩ ?_ ?_
    · rintro i σ H1 hi ⟨v3, v4, rfl, s1, eR⟩
      have hin : i < n := by omega
      have lT := cnts_len p i
      have ok := cnts_ok hp i (by omega)
      have nn : ((1 : Int) + (i : Int)) = ((i + 1 : Nat) : Int) := by omega
      refine ⟨_, rfl, .inl ⟨rfl, _, SqL.of eR⟩, ?_⟩
      refine ⟨_, rfl, _, rfl, by omega, by omega, fun D hD => ?_⟩
      have nRD : R ≠ D := ne_of_none eR hD
      have et : ((1 : Int) + (i : Int)).toNat = i + 1 := by omega
      rw [et]
      refine lc_range (lo := 0) (n := i + 1) (fun a H' => H' = upd H1 D (.lst (((prods (cnts p i)).take a).map V.int))) rfl ?_ ?_
      · rintro a H' ha rfl
        have eR2 : upd H1 D (.lst (((prods (cnts p i)).take a).map V.int)) R = some (.lst ((cnts p i).map V.int)) := by rw [upd_ne nRD]; exact eR
        have e0 : (0 : Int) + (a : Int) = ((a : Nat) : Int) := by omega
        have e1 : (1 : Int) + (i : Int) - 1 - ((0 : Int) + (a : Int)) = ((i - a : Nat) : Int) := by omega
        have g1 := cnts_pre p i a (by omega)
        have g2 := cnts_pre p i (i - a) (by omega)
        refine ⟨rfl, _, rfl, _, rfl, R, _, _, .int ((cnts p i).getD a 0), rfl, rfl, SqL.of eR2, by rw [e0]; exact atI_nat (by rw [List.getElem?_map, g1]; rfl), ?_⟩
        refine ⟨_, rfl, _, rfl, _, _, rfl, rfl, _, rfl, _, _, rfl, rfl, R, _, _, .int ((cnts p i).getD (i - a) 0), rfl, rfl, SqL.of eR2, by rw [e1]; exact atI_nat (by rw [List.getElem?_map, g2]; rfl), ?_⟩
        refine ⟨_, _, rfl, rfl, wide_mul (ok _ _ g1) (ok _ _ g2) (by omega) (by omega) (by omega), _, upd_same, ?_, ?_⟩
        · rw [List.length_map, List.length_take, sizeLine_eq]
          omega
        · have gp : (prods (cnts p i))[a]? = some ((cnts p i).getD a 0 * (cnts p i).getD (i - a) 0) := by
            unfold prods
            rw [List.getElem?_map, List.getElem?_range (by omega), lT]
            show some (_ * (cnts p i).getD (i + 1 - 1 - a) 0) = _
            rw [show i + 1 - 1 - a = i - a by omega]
          rw [upd_upd, List.take_add_one, gp, List.map_append]
          rfl
      · rintro H' rfl
        have lp : (prods (cnts p i)).length = i + 1 := by unfold prods; rw [List.length_map, List.length_range, lT]
        refine ⟨D, (prods (cnts p i)).take (i + 1), rfl, SqL.of upd_same, ?_⟩
        rw [List.take_of_length_le (by omega)]
        have sb := sum_prods (by omega) lT ok
        have eR3 : upd H1 D (.lst ((prods (cnts p i)).map V.int)) R = some (.lst ((cnts p i).map V.int)) := by rw [upd_ne nRD]; exact eR
        refine ⟨_, _, rfl, rfl, wide_mul (a := 2) (by decide) sb (by decide) (by omega) (by omega), R, _, _, rfl, rfl, eR3, by rw [List.length_map, lT, sizeLine_eq]; omega, ?_⟩
        exact ⟨_, _, rfl, same_over (s1.trans (same_upd hD)) hR, by rw [upd_same, cnts, List.map_append]; rfl⟩
    · rintro σ H1 ⟨v3, v4, rfl, s1, eR⟩
      have en : ((n : Int) + 1 - 1).toNat = n := by omega
      rw [en] at eR
      have g1 := cnts_pre p n n (Nat.le_refl _)
      exact ⟨_, rfl, _, rfl, R, _, _, _, rfl, rfl, SqL.of eR, atI_nat (by rw [List.getElem?_map, g1]; rfl), k H1 s1⟩
def spManyKinds : Sp := fun vs H Q _ => ∃ (L : Addr) (zs : List Str) (n : Nat), vs = [.ref L, .int n] ∧ H L = some (.lst (zs.map V.str)) ∧ Plains zs ∧ n ≤ 25 ∧ ∀ H', Same H H' → Q (.int ((cnts (zs.length : Nat) n).getD n 0)) H'
theorem ok_manyKinds {f fcp fcc fic fw : Addr} {fd fdcp fdcc fdic fdw : FuncData} (G : Gbl K mg) (TP : Top K mg "check_plains" sCheckPlains pCheckPlains fcp fdcp) (TC : Top K mg "check_count" sCheckCount pCheckCount fcc fdcc) (TI : Top K mg "is_count" sIsCount pIsCount fic fdic) (TW : Top K mg "is_word" sIsWord pIsWord fw fdw) (T : Top K mg "many_kinds" sManyKinds pManyKinds f fd) (B : Blt mg) : FnOk P w K mg base L2.CX0 3 f fd pManyKinds spManyKinds := by
  have GP : FnOk P w K mg base L2.CX0 2 fcp fdcp pCheckPlains spCheckPlains := ok_checkPlains TP TW B G
  have GC : FnOk P w K mg base L2.CX0 2 fcc fdcc pCheckCount spCheckCount := ok_checkCount TC TI B
  obtain ⟨sa, gs, hs⟩ := G.signs
  refine T.F.ok scManyKinds (fun vs H Q E h => ?_) (fun cdv A outer s H vs Q E hr h => ?_)
  · obtain ⟨_, _, _, rfl, _⟩ := h
    rfl
  · obtain ⟨L, zs, n, rfl, eL, hz, hn, k⟩ := h
    obtain ⟨p, hpp⟩ : ∃ p : Nat, p = zs.length := ⟨_, rfl⟩
    have hp : p ≤ 3 := by have := hz.l3; omega
    rw [← hpp] at k
    refine ⟨_, (pss_cons (ps_expr (pe_call GP hr rfl TP.g TP.F.kp TP.b .nil pass0 (pa_cons (pv 0) pa_nil)))
      (pss_cons (ps_expr (pe_call GC hr rfl TC.g TC.F.kp TC.b .nil pass0 (pa_cons (pv 1) pa_nil)))
      (pss_cons (ps_set (i := 2) scManyKinds.nd rfl (Or.inr rfl) (pe_lst (pa_cons (pe_callB call_len_seq (by rfl) B.len PySem.boot_len (pa_cons (pv 0) pa_nil)) pa_nil)))
      (pss_cons (ps_for PassesOwn.never rfl (pi_range2 (by rfl) B.range (pa_cons pe_int (pa_cons (pe_op op_add (pv 1) pe_int) pa_nil))) (pg_name (i := 3) scManyKinds.nd rfl (Or.inr rfl))
        (pss_cons (ps_set (i := 4) scManyKinds.nd rfl (Or.inl rfl) (pe_callB (cr_sum rfl) (by rfl) B.sum (by decide +kernel) (pa_cons (pe_lc (own := [("ahead", 5)]) (g := gName 5) (tt := tYes) rfl scManyKinds.nd (pi_range1 (by rfl) B.range (pa_cons (pv 3) pa_nil)) (blkOk_by (N := nManyKinds) (sc := defScope sManyKinds) (by decide +kernel)) (fun _ _ _ _ _ => pg_name (i := 5) scManyKinds.nd rfl (Or.inl rfl)) (fun _ _ _ _ _ => pts_nil) (fun _ _ _ _ _ => (pe_op op_mulW (pe_ix (show IxR _ (rIxL K) from ix_list) (pv 2) (pv 5) (fun _ _ => rfl)) (pe_ix (show IxR _ (rIxL K) from ix_list) (pv 2) (pe_op op_sub (pe_op op_sub (pv 3) pe_int) (pv 5)) (fun _ _ => rfl))))) pa_nil)))
      (pss_one (ps_expr (pe_bm PySem.F.plainAttrs_list PySem.F.slot_list_append PySem.F.type_list_append mt_append (pv 2) (pa_cons (pe_op op_mulW (pe_callB call_len_seq (by rfl) B.len PySem.boot_len (pa_cons (pe_glob (v := .ref sa) rfl gs rfl) pa_nil)) (pv 4)) pa_nil))))))
      (pss_one (ps_ret (pe_ix ix_list (pv 2) (pv 1) (fun _ _ => rfl)))))))), ?_⟩
    refine ⟨_, rfl, L, zs, rfl, eL, hz, fun H0 s0 => ⟨_, rfl, n, rfl, _, rfl, L, _, rfl, .inl (SqL.of (s0 _ _ eL)), by show 1 ≤ sizeLine; rw [sizeLine_eq]; omega, fun R hR => ?_⟩⟩
    have e0 : ((zs.map V.str).length : Int) = (p : Int) := by rw [List.length_map, hpp]
    have hR0 : H R = none := s0.free hR
    refine ⟨_, rfl, _, _, rfl, rfl, 1, (n : Int) + 1, rfl, ⟨by omega, by omega, by omega, by omega⟩, ?_⟩
    refine for_range (lo := 1) (n := ((n : Int) + 1 - 1).toNat) (fun i σ H' => ∃ (v3 v4 v5 : Option V), σ = [some (.ref L), some (.int n), some (.ref R), v3, v4, v5] ∧ Same H H' ∧ H' R = some (.lst ((cnts p i).map V.int)))
      ⟨none, none, none, rfl, s0.trans (same_upd hR), by rw [upd_same]; show some (HO.lst [V.int ((zs.map V.str).length : Nat)]) = _; rw [e0]; rfl⟩ ?_ ?_
    · rintro i σ H1 hi ⟨v3, v4, v5, rfl, s1, eR⟩
      have hin : i < n := by omega
      have lT := cnts_len p i
      have ok := cnts_ok hp i (by omega)
      have nn : ((1 : Int) + (i : Int)) = ((i + 1 : Nat) : Int) := by omega
      refine ⟨_, rfl, _, rfl, by omega, by omega, fun D hD => ?_⟩
      have nRD : R ≠ D := ne_of_none eR hD
      have et : ((1 : Int) + (i : Int)).toNat = i + 1 := by omega
      rw [et]
      refine lc_range (lo := 0) (n := i + 1) (fun a H' => H' = upd H1 D (.lst (((prods (cnts p i)).take a).map V.int))) rfl ?_ ?_
      · rintro a H' ha rfl
        have eR2 : upd H1 D (.lst (((prods (cnts p i)).take a).map V.int)) R = some (.lst ((cnts p i).map V.int)) := by rw [upd_ne nRD]; exact eR
        have e0 : (0 : Int) + (a : Int) = ((a : Nat) : Int) := by omega
        have e1 : (1 : Int) + (i : Int) - 1 - ((0 : Int) + (a : Int)) = ((i - a : Nat) : Int) := by omega
        have g1 := cnts_pre p i a (by omega)
        have g2 := cnts_pre p i (i - a) (by omega)
        refine ⟨rfl, _, rfl, _, rfl, R, _, _, .int ((cnts p i).getD a 0), rfl, rfl, SqL.of eR2, by rw [e0]; exact atI_nat (by rw [List.getElem?_map, g1]; rfl), ?_⟩
        refine ⟨_, rfl, _, rfl, _, _, rfl, rfl, _, rfl, _, _, rfl, rfl, R, _, _, .int ((cnts p i).getD (i - a) 0), rfl, rfl, SqL.of eR2, by rw [e1]; exact atI_nat (by rw [List.getElem?_map, g2]; rfl), ?_⟩
        refine ⟨_, _, rfl, rfl, wide_mul (ok _ _ g1) (ok _ _ g2) (by omega) (by omega) (by omega), _, upd_same, ?_, ?_⟩
        · rw [List.length_map, List.length_take, sizeLine_eq]
          omega
        · have gp : (prods (cnts p i))[a]? = some ((cnts p i).getD a 0 * (cnts p i).getD (i - a) 0) := by
            unfold prods
            rw [List.getElem?_map, List.getElem?_range (by omega), lT]
            show some (_ * (cnts p i).getD (i + 1 - 1 - a) 0) = _
            rw [show i + 1 - 1 - a = i - a by omega]
          rw [upd_upd, List.take_add_one, gp, List.map_append]
          rfl
      · rintro H' rfl
        have lp : (prods (cnts p i)).length = i + 1 := by unfold prods; rw [List.length_map, List.length_range, lT]
        refine ⟨D, (prods (cnts p i)).take (i + 1), rfl, SqL.of upd_same, ?_⟩
        rw [List.take_of_length_le (by omega)]
        have sb := sum_prods (by omega) lT ok
        have eR3 : upd H1 D (.lst ((prods (cnts p i)).map V.int)) R = some (.lst ((cnts p i).map V.int)) := by rw [upd_ne nRD]; exact eR
        refine ⟨_, rfl, .inl ⟨rfl, _, SqL.of eR3⟩, sa, _, rfl, .inr (sqT_any hs), _, rfl, _, _, rfl, rfl, wide_mul (a := 2) (by decide) sb (by decide) (by omega) (by omega), R, _, _, rfl, rfl, eR3, by rw [List.length_map, lT, sizeLine_eq]; omega, ?_⟩
        exact ⟨_, _, _, rfl, same_over (s1.trans (same_upd hD)) hR0, by rw [upd_same, cnts, List.map_append]; rfl⟩
    · rintro σ H1 ⟨v3, v4, v5, rfl, s1, eR⟩
      have en : ((n : Int) + 1 - 1).toNat = n := by omega
      rw [en] at eR
      have g1 := cnts_pre p n n (Nat.le_refl _)
      exact ⟨_, rfl, _, rfl, R, _, _, _, rfl, rfl, SqL.of eR, atI_nat (by rw [List.getElem?_map, g1]; rfl), k H1 s1⟩
end
end K3

namespace K3
open PySem PySem.Spec PyProof.Rows L2 KT
open PySem.W (Frag)
section
variable {P : Program} {w : World} {K : Frag} {mg : Str → Option Value} {base : Heap}
def spAllKinds : Sp := fun vs H Q _ => ∃ (L : Addr) (zs : List Str) (n : Nat), vs = [.ref L, .int n] ∧ H L = some (.lst (zs.map V.str)) ∧ Plains zs ∧ n ≤ 25 ∧ (∀ j, j ≤ n → (allK zs j).length ≤ 100000) ∧
  ∀ (R : Addr) (us : List V) (H' : Hp), Same H H' → H R = none → H' R = some (.lst us) → Tys H' us (allK zs n) → Q (.ref R) H'
theorem ok_allKinds {f fcp fcc fic fw : Addr} {fd fdcp fdcc fdic fdw : FuncData} (B : Blt mg) (G : Gbl K mg) (TP : Top K mg "check_plains" sCheckPlains pCheckPlains fcp fdcp) (TC : Top K mg "check_count" sCheckCount pCheckCount fcc fdcc) (TI : Top K mg "is_count" sIsCount pIsCount fic fdic) (TW : Top K mg "is_word" sIsWord pIsWord fw fdw)
    (T : Top K mg "all_kinds" sAllKinds pAllKinds f fd) : FnOk P w K mg base L2.CX0 3 f fd pAllKinds spAllKinds := by
  have GP : FnOk P w K mg base L2.CX0 2 fcp fdcp pCheckPlains spCheckPlains := ok_checkPlains TP TW B G
  have GC : FnOk P w K mg base L2.CX0 2 fcc fdcc pCheckCount spCheckCount := ok_checkCount TC TI B
  obtain ⟨sa, gs, hs⟩ := G.signs
  refine T.F.ok scAllKinds (fun vs H Q E h => ?_) (fun cdv A outer s H vs Q E hr h => ?_)
  · obtain ⟨_, _, _, rfl, _⟩ := h
    rfl
  · obtain ⟨L, zs, n, rfl, eL, hz, hn, hb, k⟩ := h
    refine ⟨_, (pss_cons (ps_expr (pe_call GP hr rfl TP.g TP.F.kp TP.b .nil pass0 (pa_cons (pv 0) pa_nil)))
      (pss_cons (ps_expr (pe_call GC hr rfl TC.g TC.F.kp TC.b .nil pass0 (pa_cons (pv 1) pa_nil)))
      (pss_cons (ps_set (i := 2) scAllKinds.nd rfl (Or.inr rfl) (pe_lst (pa_cons (pe_callTy call_list_of (by rfl) B.list (by decide +kernel) (pa_cons (pv 0) pa_nil)) pa_nil)))
      (pss_cons (ps_for PassesOwn.never rfl (pi_range2 (by rfl) B.range (pa_cons pe_int (pa_cons (pe_op op_add (pv 1) pe_int) pa_nil))) (pg_name (i := 3) scAllKinds.nd rfl (Or.inr rfl))
        (pss_cons (ps_setLc4 (i := 4) (own := [("sign", 5), ("ahead", 6), ("first", 7), ("second", 8)]) (vs1 := [6, 7, 8]) (g := gName 5) (tt := tYes) rfl scAllKinds.nd rfl rfl (sw_true rfl rfl rfl (by decide +kernel)) (pi_tup (pe_glob (v := .ref sa) rfl gs rfl)) (blkOk_by (N := nAllKinds) (sc := defScope sAllKinds) (by decide +kernel)) (by decide)
            (fun _ _ _ _ _ => pg_name (i := 5) scAllKinds.nd rfl (Or.inl rfl)) (fun _ _ _ _ _ => pts_nil)
            (fun _ _ _ _ _ => inner1 (vs := [6, 7, 8]) (vsin := [7, 8]) (g := gName 6) (tt := tYes) rfl rfl (pi_range1 (by rfl) B.range (pa_cons (pv 3) pa_nil)) (pg_name (i := 6) scAllKinds.nd rfl (Or.inl rfl)) pts_nil (by decide) (fun _ => rfl)
              (inner2 (vs := [7, 8]) (vsin := [8]) (g := gName 7) (tt := tYes) rfl rfl (show PI _ _ _ (iList K (tOp (rIxL K) (tVar 2) (tVar 6))) from pi_list (pe_ix (show IxR _ (rIxL K) from ix_list) (pv 2) (pv 6) (fun _ _ => rfl))) (pg_name (i := 7) scAllKinds.nd rfl (Or.inl rfl)) pts_nil (by decide) (fun _ => rfl)
                (inner3 (vs := [8]) (g := gName 8) (tt := tYes) rfl rfl (show PI _ _ _ (iList K (tOp (rIxL K) (tVar 2) _)) from pi_list (pe_ix (show IxR _ (rIxL K) from ix_list) (pv 2) (pe_op op_sub (pe_op op_sub (pv 3) pe_int) (pv 6)) (fun _ _ => rfl))) (pg_name (i := 8) scAllKinds.nd rfl (Or.inl rfl)) pts_nil
                  (pe_tup (pa_cons (pv 5) (pa_cons (pv 7) (pa_cons (pv 8) pa_nil))))))))
      (pss_one (ps_expr (pe_bm PySem.F.plainAttrs_list PySem.F.slot_list_append PySem.F.type_list_append mt_append (pv 2) (pa_cons (pv 4) pa_nil))))))
      (pss_one (ps_ret (pe_ix ix_list (pv 2) (pv 1) (fun _ _ => rfl)))))))), ?_⟩
    refine ⟨_, rfl, L, zs, rfl, eL, hz, fun H0 s0 => ⟨_, rfl, n, rfl, _, rfl, L, _, rfl, .inl (SqL.of (s0 _ _ eL)), fun p np => ⟨by show 1 ≤ sizeLine; rw [sizeLine_eq]; omega, fun R nR => ?_⟩⟩⟩
    have sp : Same H (upd H0 p (.lst (zs.map V.str))) := s0.trans (same_upd np)
    have nHp : H p = none := s0.free np
    have nHR : H R = none := sp.free nR
    have npR : p ≠ R := ne_of_none upd_same nR
    refine ⟨_, rfl, _, _, rfl, rfl, 1, (n : Int) + 1, rfl, ⟨by omega, by omega, by omega, by omega⟩, ?_⟩
    refine for_range (lo := 1) (n := ((n : Int) + 1 - 1).toNat) (fun i σ H' => ∃ (v3 v4 v5 v6 v7 v8 : Option V) (Ls : List Addr), σ = [some (.ref L), some (.int n), some (.ref R), v3, v4, v5, v6, v7, v8] ∧ Same H H' ∧ H' R = some (.lst (Ls.map V.ref)) ∧ Ls.length = i + 1 ∧
        ∀ (j : Nat) (a : Addr), Ls[j]? = some a → a ≠ R ∧ H a = none ∧ ∃ us, H' a = some (.lst us) ∧ Tys H' us (allK zs j))
      ⟨none, none, none, none, none, none, [p], rfl, sp.trans (same_upd nR), upd_same, rfl, fun j a hj => ?_⟩ ?_ ?_
    · match j, hj with
      | 0, hj =>
        obtain rfl := Option.some.inj hj
        exact ⟨npR, nHp, _, by rw [upd_ne npR, upd_same], tys_plains hz.w⟩
      | j + 1, hj => exact absurd hj (by simp)
    · rintro i σ H1 hi ⟨v3, v4, v5, v6, v7, v8, Ls, rfl, s1, eR, lL, hL⟩
      have hin : i + 1 ≤ n := by omega
      have hbm := hb (i + 1) hin
      rw [allK_succ] at hbm
      have geti : ∀ j, j ≤ i → ∃ a us, Ls[j]? = some a ∧ H1 a = some (.lst us) ∧ Tys H1 us (allK zs j) := fun j hj => by
        have q : Ls[j]? = some Ls[j] := List.getElem?_eq_getElem (by omega)
        obtain ⟨_, _, us, h1, h2⟩ := hL j _ q
        exact ⟨_, us, q, h1, h2⟩
      let part (gs : List Sg) : List Ty := gs.flatMap fun g => (List.range (i + 1)).flatMap fun a => (allK zs a).flatMap fun x => (allK zs (i - a)).map fun y => .n g x y
      refine ⟨sa, rfl, ⟨_, sqT_any hs⟩, fun D nD => ?_⟩
      have nRD : R ≠ D := ne_of_none eR nD
      refine lc_gen (walk_tup (K := K) (xs := [.str "over", .str "then", .str "under"])) (fun c H' => Same H1 H' ∧ ∃ qs, H' D = some (.lst qs) ∧ Tys H' qs (part ([Sg.ov, .th, .un].take c))) ⟨same_upd nD, [], upd_same, .nil⟩ (fun c H' _ _ => sqT_any hs) ?_ ?_
      · rintro c x H2 H3 hc ⟨s3, qs, eD, hq⟩ ⟨rfl, hx⟩
        obtain ⟨g, hg, rfl⟩ : ∃ g, [Sg.ov, .th, .un][c]? = some g ∧ x = .str g.str := by
          match c, hx with
          | 0, hx => exact ⟨.ov, rfl, (Option.some.inj hx).symm⟩
          | 1, hx => exact ⟨.th, rfl, (Option.some.inj hx).symm⟩
          | 2, hx => exact ⟨.un, rfl, (Option.some.inj hx).symm⟩
          | j + 3, hx => exact absurd hx (by simp)
        let F : Nat → List Ty := fun a => (allK zs a).flatMap fun x => (allK zs (i - a)).map fun y => .n g x y
        have b1 : (part ([Sg.ov, .th, .un].take c)).length + ((List.range (i + 1)).flatMap F).length ≤ 100000 := by
          have q := flat_take (fun g => (List.range (i + 1)).flatMap fun a => (allK zs a).flatMap fun x => (allK zs (i - a)).map fun y => Ty.n g x y) _ c g hg
          exact Nat.le_trans q hbm
        refine ⟨rfl, _, rfl, _, rfl, by omega, by omega, ?_⟩
        have et : ((1 : Int) + (i : Int)).toNat = i + 1 := by omega
        rw [et]
        refine lc_gen (walk_range (lo := 0) (n := i + 1)) (fun a H' => Same H1 H' ∧ ∃ qs, H' D = some (.lst qs) ∧ Tys H' qs (part ([Sg.ov, .th, .un].take c) ++ (List.range a).flatMap F)) ⟨s3, qs, eD, by simpa using hq⟩ (fun _ _ _ _ => trivial) ?_ ?_
        · rintro a x H4 H5 ha ⟨s5, qs, eD, hq⟩ ⟨rfl, rfl⟩
          have b2 : ((List.range a).flatMap F).length + (F a).length ≤ ((List.range (i + 1)).flatMap F).length := by
            have q := flat_take F (List.range (i + 1)) a a (by rw [List.getElem?_range ha])
            rw [List.take_range, Nat.min_eq_left (by omega)] at q
            exact q
          obtain ⟨La, usa, ga, ea, ta⟩ := geti a (by omega)
          obtain ⟨Lb, usb, gb, eb, tb⟩ := geti (i - a) (by omega)
          have e0 : (0 : Int) + (a : Int) = ((a : Nat) : Int) := by omega
          have e1 : (1 : Int) + (i : Int) - 1 - ((0 : Int) + (a : Int)) = ((i - a : Nat) : Int) := by omega
          have la := ta.length
          have lb := tb.length
          refine ⟨rfl, _, rfl, _, rfl, R, _, _, .ref La, rfl, rfl, SqL.of (s5 _ _ eR), by rw [e0]; exact atI_nat (by rw [List.getElem?_map, ga]; rfl), La, rfl, ⟨_, SqL.of (s5 _ _ ea)⟩, ?_⟩
          refine lc_gen (walk_list (K := K) (xs := usa)) (fun kk H' => Same H1 H' ∧ ∃ qs, H' D = some (.lst qs) ∧ Tys H' qs (part ([Sg.ov, .th, .un].take c) ++ (List.range a).flatMap F ++ ((allK zs a).take kk).flatMap fun x => (allK zs (i - a)).map fun y => .n g x y)) ⟨s5, qs, eD, by simpa using hq⟩ (fun kk H' _ q => SqL.of (q.1 _ _ ea)) ?_ ?_
          · rintro kk x H6 H7 hkk ⟨s7, qs, eD, hq⟩ ⟨rfl, hx⟩
            obtain ⟨tx, htx, hxt⟩ := ta.at_ hx
            have b3 : (((allK zs a).take kk).flatMap fun x => (allK zs (i - a)).map fun y => Ty.n g x y).length + (allK zs (i - a)).length ≤ (F a).length := by
              have q := flat_take (fun x => (allK zs (i - a)).map fun y => Ty.n g x y) (allK zs a) kk tx htx
              rw [List.length_map] at q
              exact q
            refine ⟨rfl, _, rfl, _, rfl, _, _, rfl, rfl, _, rfl, _, _, rfl, rfl, R, _, _, .ref Lb, rfl, rfl, SqL.of (s7 _ _ eR), by rw [e1]; exact atI_nat (by rw [List.getElem?_map, gb]; rfl), Lb, rfl, ⟨_, SqL.of (s7 _ _ eb)⟩, ?_⟩
            refine lc_gen (walk_list (K := K) (xs := usb)) (fun jj H' => Same H1 H' ∧ ∃ qs, H' D = some (.lst qs) ∧ Tys H' qs (part ([Sg.ov, .th, .un].take c) ++ (List.range a).flatMap F ++ (((allK zs a).take kk).flatMap fun x => (allK zs (i - a)).map fun y => .n g x y) ++ ((allK zs (i - a)).take jj).map fun y => .n g tx y)) ⟨s7, qs, eD, by simpa using hq⟩ (fun jj H' _ q => SqL.of (q.1 _ _ eb)) ?_ ?_
            · rintro jj y H8 H9 hjj ⟨s9, qs, eD, hq⟩ ⟨rfl, hy⟩
              obtain ⟨ty, hty, hyt⟩ := tb.at_ hy
              have lq := hq.length
              simp only [List.length_append, List.length_map, List.length_take] at lq
              refine ⟨rfl, _, rfl, _, rfl, _, rfl, by show 3 ≤ sizeLine; rw [sizeLine_eq]; omega, fun r nr => ⟨qs, by rw [upd_ne (ne_of_none eD nr)]; exact eD, by rw [sizeLine_eq]; omega, same_over (s9.trans (same_upd nr)) nD, qs ++ [.ref r], upd_same, ?_⟩⟩
              have tkA : TK H9 (upd (upd H9 r (.tup [.str g.str, x, y])) D (.lst (qs ++ [.ref r]))) := (TK.upd_new nr).trans (TK.upd_lst (by rw [upd_ne (ne_of_none eD nr)]; exact eD))
              have tk1 := (TK.of_same s9).trans tkA
              rw [map_snoc _ _ _ _ hty, ← List.append_assoc]
              exact (hq.mono tkA).snoc (.n (by rw [upd_ne (ne_of_none eD nr).symm, upd_same]) (hxt.mono tk1) (hyt.mono tk1))
            · rintro H8 ⟨s8, qs, eD, hq⟩
              rw [lb, List.take_length] at hq
              refine ⟨s8, qs, eD, ?_⟩
              rw [flat_snoc _ _ _ _ htx, ← List.append_assoc]
              exact hq
          · rintro H6 ⟨s6, qs, eD, hq⟩
            rw [la, List.take_length] at hq
            refine ⟨s6, qs, eD, ?_⟩
            rw [List.range_succ, List.flatMap_append, ← List.append_assoc]
            simpa using hq
        · rintro H4 ⟨s4, qs, eD, hq⟩
          refine ⟨s4, qs, eD, ?_⟩
          show Tys H4 qs (([Sg.ov, .th, .un].take (c + 1)).flatMap _)
          rw [flat_snoc _ _ _ _ hg]
          exact hq
      · rintro H2 ⟨s2, qs, eD, hq⟩
        have eR2 := s2 _ _ eR
        have hq' : Tys H2 qs (allK zs (i + 1)) := by
          rw [allK_succ]
          exact hq
        refine ⟨_, rfl, .inl ⟨rfl, _, SqL.of eR2⟩, _, rfl, R, _, _, rfl, rfl, eR2, by rw [List.length_map, lL, sizeLine_eq]; omega, ?_⟩
        have tk : TK H2 (upd H2 R (.lst (Ls.map V.ref ++ [.ref D]))) := TK.upd_lst eR2
        refine ⟨_, _, _, _, _, _, Ls ++ [D], rfl, same_over (s1.trans s2) nHR, by rw [upd_same, List.map_append]; rfl, by rw [List.length_append, lL]; rfl, fun j a hj => ?_⟩
        by_cases hji : j < i + 1
        · rw [List.getElem?_append_left (by omega)] at hj
          obtain ⟨h1, h2, us, h3, h4⟩ := hL j a hj
          exact ⟨h1, h2, us, by rw [upd_ne h1]; exact s2 _ _ h3, h4.mono ((TK.of_same s2).trans tk)⟩
        · have hj' : j = i + 1 := by
            have := (List.getElem?_eq_some_iff.mp hj).1
            rw [List.length_append, lL, List.length_singleton] at this
            omega
          subst hj'
          rw [List.getElem?_append_right (by omega), lL] at hj
          simp at hj
          subst hj
          exact ⟨nRD.symm, s1.free nD, qs, by rw [upd_ne nRD.symm]; exact eD, hq'.mono tk⟩
    · rintro σ H1 ⟨v3, v4, v5, v6, v7, v8, Ls, rfl, s1, eR, lL, hL⟩
      have en : ((n : Int) + 1 - 1).toNat = n := by omega
      rw [en] at lL
      have q : Ls[n]? = some Ls[n] := List.getElem?_eq_getElem (by omega)
      obtain ⟨_, h2, us, h3, h4⟩ := hL n _ q
      exact ⟨_, rfl, _, rfl, R, _, _, _, rfl, rfl, SqL.of eR, atI_nat (by rw [List.getElem?_map, q]; rfl), k _ us H1 s1 h2 h3 h4⟩
end
end K3

namespace K3
open PySem PySem.Spec PyProof.Rows L2 KT
open PySem.W (Frag)
/-! ### facts of texts -/
theorem cps_app (x y : Str) : (x ++ y).cps.toList = x.cps.toList ++ y.cps.toList := TL.tl_append x y
theorem isW_no {z : Str} (h : IsW z) {c : Nat} (hc : c < 97) : c ∉ z.cps.toList := fun m => by
  have := (h.2.2 c m).1
  omega
theorem sg_no (g : Sg) {c : Nat} (hc : c < 97) : c ∉ g.str.cps.toList := fun m => by
  have q : ∀ d ∈ g.str.cps.toList, 97 ≤ d := by cases g <;> decide +kernel
  have := q c m
  omega
theorem text_blanks (t : Ty) (h : t.wOk) : cnt 32 t.text.cps.toList = 2 * (t.signs : Int) := by
  induction t with
  | w z => rw [Ty.text, cnt_none 32 _ (isW_no h (by decide))]; rfl
  | n g a b i j =>
    have i := i h.1
    have j := j h.2
    simp only [Ty.text, cps_app, cnt_append, i, j, Ty.signs]
    rw [cnt_none 32 g.str.cps.toList (sg_no g (by decide))]
    have e1 : cnt 32 (("(" : Str)).cps.toList = 0 := by decide +kernel
    have e2 : cnt 32 ((" " : Str)).cps.toList = 1 := by decide +kernel
    have e3 : cnt 32 ((")" : Str)).cps.toList = 0 := by decide +kernel
    rw [e1, e2, e3]
    push_cast
    omega
theorem text_split (t : Ty) (h : t.wOk) : ((Txt.split t.text (" " : Str)).length : Int) = 1 + 2 * (t.signs : Int) := by
  have q := split_len t.text 32
  rw [text_blanks t h] at q
  exact q
/-- "(then " stands somewhere -/
def has : List Nat → Bool
  | [] => false
  | c :: r => ((c :: r).take 6 == [40, 116, 104, 101, 110, 32]) || has r
theorem has_skip {X : List Nat} : ∀ {l : List Nat}, 40 ∉ l → has (l ++ X) = has X
  | [], _ => rfl
  | c :: l, h => by
    have hc : c ≠ 40 := fun e => h (by rw [e]; exact List.mem_cons_self)
    rw [List.cons_append, has, has_skip fun m => h (List.mem_cons_of_mem _ m)]
    have e : ((c :: (l ++ X)).take 6 == [40, 116, 104, 101, 110, 32]) = false := by
      rw [beq_eq_false_iff_ne]
      intro z
      rw [List.take_succ_cons] at z
      exact hc (List.cons.inj z).1
    rw [e, Bool.false_or]
theorem has_text (t : Ty) (h : t.wOk) : ∀ X : List Nat, has (t.text.cps.toList ++ X) = (!t.free || has X) := by
  induction t with
  | w z => intro X; rw [Ty.text, has_skip (isW_no h (by decide))]; rfl
  | n g a b i j =>
    intro X
    have i := i h.1
    have j := j h.2
    simp only [Ty.text, cps_app, List.append_assoc]
    have e1 : (("(" : Str)).cps.toList = [40] := by decide +kernel
    have e2 : 40 ∉ ((" " : Str)).cps.toList := by decide +kernel
    have e3 : 40 ∉ ((")" : Str)).cps.toList := by decide +kernel
    rw [e1, List.cons_append, List.nil_append]
    rw [has, has_skip (sg_no g (by decide)), has_skip e2, i, has_skip e2, j, has_skip e3]
    have eg : ((40 :: (g.str.cps.toList ++ ((" " : Str).cps.toList ++ (a.text.cps.toList ++ ((" " : Str).cps.toList ++ (b.text.cps.toList ++ ((")" : Str).cps.toList ++ X))))))).take 6 == [40, 116, 104, 101, 110, 32]) = decide (g = .th) := by
      cases g with
      | ov => rfl
      | th => rfl
      | un => rfl
    show ((40 :: (g.str.cps.toList ++ ((" " : Str).cps.toList ++ (a.text.cps.toList ++ ((" " : Str).cps.toList ++ (b.text.cps.toList ++ ((")" : Str).cps.toList ++ X))))))).take 6 == [40, 116, 104, 101, 110, 32] || (!a.free || (!b.free || has X))) = _
    rw [eg]
    simp only [Ty.free]
    cases a.free <;> cases b.free <;> cases g <;> simp
theorem has_iff : ∀ l : List Nat, has l = true ↔ ∃ i, i + 6 ≤ l.length ∧ (l.drop i).take 6 = [40, 116, 104, 101, 110, 32]
  | [] => by simp [has]
  | c :: r => by
    rw [has, Bool.or_eq_true, has_iff r, beq_iff_eq]
    constructor
    · rintro (h | ⟨i, h1, h2⟩)
      · refine ⟨0, ?_, h⟩
        have q := congrArg List.length h
        rw [List.length_take] at q
        simp only [List.length_cons, List.length_nil] at q ⊢
        omega
      · exact ⟨i + 1, by simp only [List.length_cons]; omega, h2⟩
    · rintro ⟨i, h1, h2⟩
      cases i with
      | zero => exact .inl h2
      | succ i => exact .inr ⟨i, by simp only [List.length_cons] at h1; omega, h2⟩
theorem text_then (t : Ty) (h : t.wOk) : (!(!(Builtin.Str.occurrences t.text ("(then " : Str) 0 t.text.length 1).isEmpty)) = t.free := by
  have q := has_text t h []
  rw [List.append_nil, show has [] = false from rfl, Bool.or_false] at q
  have f := StrLaws.found_iff t.text ("(then " : Str)
  have e : (!(Builtin.Str.occurrences t.text ("(then " : Str) 0 t.text.length 1).isEmpty) = has t.text.cps.toList := by
    rw [Bool.eq_iff_iff, f, has_iff]
    have l : t.text.length = t.text.cps.toList.length := TL.len_tl _
    have lp : ("(then " : Str).length = 6 := rfl
    have ep : ("(then " : Str).cps.toList = [40, 116, 104, 101, 110, 32] := by decide +kernel
    constructor
    · rintro ⟨i, h1, h2⟩
      rw [StrLaws.subAt_eq, beq_iff_eq, lp, ep] at h2
      exact ⟨i, by rw [← l]; exact h1, h2⟩
    · rintro ⟨i, h1, h2⟩
      refine ⟨i, by rw [l]; exact h1, ?_⟩
      rw [StrLaws.subAt_eq, beq_iff_eq, lp, ep]
      exact h2
  rw [e, q, Bool.not_not]
end K3

namespace K3
open PySem PySem.Spec PyProof.Rows L2 NdefX LamX KT
open PySem.W (Frag)
/-! ### ascending lists of texts -/
theorem lt_trans0 : ∀ a b c : List Nat, ltCps b a = false → ltCps c b = false → ltCps c a = false
  | [], [], [], _, _ => rfl
  | [], [], _ :: _, _, h => by simp [ltCps] at h ⊢
  | [], _ :: _, [], _, h => by simp [ltCps] at h
  | [], _ :: _, _ :: _, _, h => by simp [ltCps]
  | _ :: _, [], _, h, _ => by simp [ltCps] at h
  | _ :: _, _ :: _, [], _, h => by simp [ltCps] at h
  | x :: a, y :: b, z :: c, h1, h2 => by
    simp only [ltCps, Bool.or_eq_false_iff, decide_eq_false_iff_not, Bool.and_eq_false_iff, beq_eq_false_iff_ne] at h1 h2 ⊢
    refine ⟨by omega, ?_⟩
    rcases h1.2 with e1 | e1
    · exact .inl (by omega)
    · rcases h2.2 with e2 | e2
      · exact .inl (by omega)
      · by_cases e : z = x
        · exact .inr (lt_trans0 a b c e1 e2)
        · exact .inl e
theorem lt_anti : ∀ a b : List Nat, ltCps b a = false → ltCps a b = false → a = b
  | [], [], _, _ => rfl
  | [], _ :: _, _, h => by simp [ltCps] at h
  | _ :: _, [], h, _ => by simp [ltCps] at h
  | x :: a, y :: b, h1, h2 => by
    simp only [ltCps, Bool.or_eq_false_iff, decide_eq_false_iff_not, Bool.and_eq_false_iff, beq_eq_false_iff_ne] at h1 h2
    have e : x = y := by omega
    subst e
    have q1 : ltCps b a = false := h1.2.resolve_left fun z => z rfl
    have q2 : ltCps a b = false := h2.2.resolve_left fun z => z rfl
    rw [lt_anti a b q1 q2]
theorem rising_all : ∀ (x : Str) (r : List Str), risingS x r = true → (∀ y ∈ r, ltCps y.cps.toList x.cps.toList = false) ∧ sortedS r = true
  | _, [], _ => ⟨fun y hy => by (cases hy), rfl⟩
  | x, y :: r, h => by
    unfold risingS at h
    rw [Bool.and_eq_true, Bool.not_eq_true'] at h
    obtain ⟨h1, h2⟩ := h
    obtain ⟨i1, i2⟩ := rising_all y r h2
    refine ⟨fun z hz => ?_, h2⟩
    rcases List.mem_cons.mp hz with e | hz
    · rw [e]; exact h1
    · exact lt_trans0 _ _ _ h1 (i1 z hz)
theorem sorted_uniq : ∀ (xs ys : List Str), sortedS xs = true → sortedS ys = true → xs.Nodup → ys.Nodup → (∀ z, z ∈ xs ↔ z ∈ ys) → xs = ys
  | [], [], _, _, _, _, _ => rfl
  | [], y :: _, _, _, _, _, m => by simpa using (m y).mpr List.mem_cons_self
  | x :: _, [], _, _, _, _, m => by simpa using (m x).mp List.mem_cons_self
  | x :: xs, y :: ys, h1, h2, n1, n2, m => by
    obtain ⟨a1, a2⟩ := rising_all x xs h1
    obtain ⟨b1, b2⟩ := rising_all y ys h2
    have e : x = y := by
      by_cases e : x = y
      · exact e
      · have hx : x ∈ ys := (List.mem_cons.mp ((m x).mp List.mem_cons_self)).resolve_left e
        have hy : y ∈ xs := (List.mem_cons.mp ((m y).mpr List.mem_cons_self)).resolve_left (Ne.symm e)
        exact Str.ext' (Array.toList_inj.mp (lt_anti _ _ (a1 y hy) (b1 x hx)))
    subst e
    obtain ⟨c1, c2⟩ := List.nodup_cons.mp n1
    obtain ⟨d1, d2⟩ := List.nodup_cons.mp n2
    rw [sorted_uniq xs ys a2 b2 c2 d2 fun z => ?_]
    constructor
    · intro hz
      exact (List.mem_cons.mp ((m z).mp (List.mem_cons_of_mem _ hz))).resolve_left fun e => c1 (e ▸ hz)
    · intro hz
      exact (List.mem_cons.mp ((m z).mpr (List.mem_cons_of_mem _ hz))).resolve_left fun e => d1 (e ▸ hz)
theorem PlainsOf.uniq {xs ys : List Str} {ts : List Ty} (h : PlainsOf xs ts) (h' : PlainsOf ys ts) : xs = ys := sorted_uniq xs ys h.so h'.so h.nd h'.nd fun z => (h.mem z).trans (h'.mem z).symm
/-! ### what stays, but for one object and the tables -/
def KN (a : Addr) (H H' : Hp) : Prop := ∀ b o, H b = some o → b ≠ a → (∀ ps, o ≠ .tbl ps) → H' b = some o
theorem KN.refl (a : Addr) (H : Hp) : KN a H H := fun _ _ e _ _ => e
theorem KN.trans {a : Addr} {H H1 H2 : Hp} (h : KN a H H1) (h' : KN a H1 H2) : KN a H H2 := fun b o e n m => h' b o (h b o e n m) n m
theorem KN.of_same {a : Addr} {H H' : Hp} (h : Same H H') : KN a H H' := fun b o e _ _ => h b o e
theorem KN.of_but {a : Addr} {H H' : Hp} (h : KeepBut a H H') : KN a H H' := fun b o e n _ => h b o e n
theorem KN.of_ext {a : Addr} {H H' : Hp} (h : ExtN H H') : KN a H H' := fun b o e _ m => h b o e m
/-- an object that was not there at first may be changed -/
theorem KN.upd {a d : Addr} {H H1 H' : Hp} {o : HO} (h1 : KN a H H1) (n : H1 d = none) (h : KN a H H') : KN a H (upd H' d o) := fun b u e nb m => by
  have q := h1 b u e nb m
  have : b ≠ d := fun z => by rw [z, n] at q; cases q
  rw [upd_ne this]
  exact h b u e nb m
theorem KN.upd_new {a d : Addr} {H H' : Hp} {o : HO} (h : KN a H H') (n : H' d = none) : KN a H (L2.upd H' d o) := h.trans (.of_same (same_upd n))
theorem KN.tk {a n : Nat} {H H' : Hp} (h : KN a H H') (p : PurseAt H a n) : TK H H' := fun q xs e => h q _ e (fun z => by
  obtain ⟨_, _, _, _, e', _⟩ := p
  rw [z, e'] at e
  cases e) fun ps z => by cases z
theorem tbl_ne_lst {xs : List V} : ∀ ps, HO.lst xs ≠ .tbl ps := fun ps z => by cases z
theorem tbl_ne_dK {xs : List (Key × V)} : ∀ ps, HO.dK xs ≠ .tbl ps := fun ps z => by cases z
theorem tbl_ne_tup {xs : List V} : ∀ ps, HO.tup xs ≠ .tbl ps := fun ps z => by cases z
theorem KN.lst {a b : Addr} {H H' : Hp} {xs : List V} (h : KN a H H') (e : H b = some (.lst xs)) (n : b ≠ a) : H' b = some (.lst xs) := h b _ e n tbl_ne_lst
theorem KN.dK {a b : Addr} {H H' : Hp} {xs : List (Key × V)} (h : KN a H H') (e : H b = some (.dK xs)) (n : b ≠ a) : H' b = some (.dK xs) := h b _ e n tbl_ne_dK
theorem ExtN.lst {b : Addr} {H H' : Hp} {xs : List V} (h : ExtN H H') (e : H b = some (.lst xs)) : H' b = some (.lst xs) := h b _ e tbl_ne_lst
theorem ExtN.dK {b : Addr} {H H' : Hp} {xs : List (Key × V)} (h : ExtN H H') (e : H b = some (.dK xs)) : H' b = some (.dK xs) := h b _ e tbl_ne_dK
theorem ExtN.tup {b : Addr} {H H' : Hp} {xs : List V} (h : ExtN H H') (e : H b = some (.tup xs)) : H' b = some (.tup xs) := h b _ e tbl_ne_tup
theorem PurseAt.ext {H H' : Hp} {a n : Nat} (h : PurseAt H a n) (e : ExtN H H') : PurseAt H' a n := by
  obtain ⟨p0, p1, p2, p3, q, r⟩ := h
  exact ⟨p0, p1, p2, p3, ExtN.lst e q, r⟩
theorem PurseAt.same {H H' : Hp} {a n : Nat} (h : PurseAt H a n) (e : Same H H') : PurseAt H' a n := h.ext (ExtN.of_same e)
/-- tables stay where one object, that is neither a table nor a code object, is changed -/
theorem tabs_but {T : List (Addr × Str)} {H H' : Hp} {a : Addr} {o0 : HO} (t : Tabs T H) (e : H a = some o0) (n1 : ∀ ps, o0 ≠ .tbl ps) (n2 : ∀ c q, o0 ≠ CodeO c q) (k : ∀ b o, H b = some o → b ≠ a → H' b = some o) : Tabs T H' := fun p hp => by
  obtain ⟨ps, h1, h2, h3⟩ := t p hp
  refine ⟨ps, k _ _ h1 fun z => ?_, h2, fun pos cv hc => ?_⟩
  · rw [z, e] at h1
    exact n1 ps (Option.some.inj h1)
  · obtain ⟨c, e1, e2⟩ := h3 pos cv hc
    refine ⟨c, e1, k _ _ e2 fun z => ?_⟩
    rw [z, e] at e2
    exact n2 _ _ (Option.some.inj e2)
theorem tabs_purse {T : List (Addr × Str)} {H H' : Hp} {a n : Nat} (t : Tabs T H) (p : PurseAt H a n) (k : KeepBut a H H') : Tabs T H' := by
  obtain ⟨_, _, _, _, e, _⟩ := p
  exact tabs_but t e tbl_ne_lst (fun c q z => by cases z) k
theorem tabs_lst {T : List (Addr × Str)} {H : Hp} {a : Addr} {xs : List V} {o : HO} (t : Tabs T H) (e : H a = some (.lst xs)) : Tabs T (upd H a o) := tabs_but t e tbl_ne_lst (fun c q z => by cases z) fun b u h n => by rw [upd_ne n]; exact h
theorem tabs_dK {T : List (Addr × Str)} {H : Hp} {a : Addr} {xs : List (Key × V)} {o : HO} (t : Tabs T H) (e : H a = some (.dK xs)) : Tabs T (upd H a o) := tabs_but t e tbl_ne_dK (fun c q z => by cases z) fun b u h n => by rw [upd_ne n]; exact h
/-! ### types -/
theorem Ty.words_turned (t : Ty) (z : Str) : z ∈ t.turned.words ↔ z ∈ t.words := by
  induction t with
  | w y => exact Iff.rfl
  | n g a b i j => simp only [Ty.turned, Ty.words, List.mem_append, i, j]; exact Or.comm
theorem Ty.signs_turned (t : Ty) : t.turned.signs = t.signs := by
  induction t with
  | w y => rfl
  | n g a b i j => simp only [Ty.turned, Ty.signs, i, j]; omega
theorem Sg.turn2 (g : Sg) : g.turn.turn = g := by cases g <;> rfl
theorem Ty.turned2 (t : Ty) : t.turned.turned = t := by
  induction t with
  | w y => rfl
  | n g a b i j => simp only [Ty.turned, i, j, Sg.turn2]
theorem Ty.put_turned (m : Str → Ty) (t : Ty) : (t.put m).turned = t.turned.put fun z => (m z).turned := by
  induction t with
  | w y => rfl
  | n g a b i j => simp only [Ty.put, Ty.turned, i, j]
theorem Ty.put_id (t : Ty) : t.put .w = t := by
  induction t with
  | w y => rfl
  | n g a b i j => simp only [Ty.put, i, j]
theorem Ty.put_signs (m : Str → Ty) (k : Nat) (t : Ty) (h : ∀ z ∈ t.words, (m z).signs ≤ k) : (t.put m).signs ≤ t.signs * (k + 1) + k := by
  induction t with
  | w y =>
    have := h y (by simp [Ty.words])
    simp only [Ty.put, Ty.signs]
    omega
  | n g a b i j =>
    have i := i fun z hz => h z (List.mem_append.mpr (.inl hz))
    have j := j fun z hz => h z (List.mem_append.mpr (.inr hz))
    simp only [Ty.put, Ty.signs]
    have e : (1 + a.signs + b.signs) * (k + 1) = (k + 1) + a.signs * (k + 1) + b.signs * (k + 1) := by rw [Nat.add_mul, Nat.add_mul, Nat.one_mul]
    omega
end K3

namespace K3
open PySem PySem.Spec PyProof.Rows L2 NdefX LamX KT
open PySem.W (Frag)
/-! ### dictionaries of pairs -/
theorem putK_old {kvs : List (Key × V)} {k : Key} {x : V} (h : k ∈ kvs.map (·.1)) : (putK kvs k x).map (·.1) = kvs.map (·.1) := by
  have e : (kvs.any fun kv => decide (kv.1 = k)) = true := by
    obtain ⟨p, h1, h2⟩ := List.mem_map.mp h
    exact List.any_eq_true.mpr ⟨p, h1, decide_eq_true h2⟩
  unfold putK
  rw [if_pos e, List.map_map]
  refine List.map_congr_left fun p _ => ?_
  show (if p.1 = k then (p.1, x) else p).1 = p.1
  split <;> rfl
theorem putK_new {kvs : List (Key × V)} {k : Key} {x : V} (h : k ∉ kvs.map (·.1)) : putK kvs k x = kvs ++ [(k, x)] := by
  unfold putK
  rw [if_neg]
  intro z
  obtain ⟨q, h1, h2⟩ := List.any_eq_true.mp z
  exact h (List.mem_map.mpr ⟨q, h1, of_decide_eq_true h2⟩)
theorem merge_keys (f : Str → V) : ∀ (zs : List Str) (kvs : List (Key × V)) (ks : List Str), kvs.map (·.1) = ks.map Sum.inr → ks.Nodup →
    ∃ ks' : List Str, (mergeK kvs (zs.map fun z => (Sum.inr z, f z))).map (·.1) = ks'.map Sum.inr ∧ ks'.Nodup ∧ (∀ z, z ∈ ks' ↔ z ∈ ks ∨ z ∈ zs) ∧ ks'.length ≤ ks.length + zs.length
  | [], kvs, ks, h, n => ⟨ks, h, n, fun z => by simp, by simp⟩
  | y :: zs, kvs, ks, h, n => by
    by_cases m : (Sum.inr y : Key) ∈ ks.map Sum.inr
    · have e := putK_old (kvs := kvs) (x := f y) (h ▸ m)
      rw [h] at e
      obtain ⟨ks', h1, h2, h3, h4⟩ := merge_keys f zs _ ks e n
      obtain ⟨y', hy, ey⟩ := List.mem_map.mp m
      have ey : y' = y := Sum.inr.inj ey
      subst ey
      refine ⟨ks', h1, h2, fun z => (h3 z).trans ?_, by simp only [List.length_cons]; omega⟩
      simp only [List.mem_cons]
      constructor
      · rintro (h | h)
        · exact .inl h
        · exact .inr (.inr h)
      · rintro (h | h | h)
        · exact .inl h
        · rw [h]; exact .inl hy
        · exact .inr h
    · have e : (putK kvs (Sum.inr y) (f y)).map (·.1) = ks.map Sum.inr ++ [Sum.inr y] := by rw [putK_new (h ▸ m), List.map_append, h]; rfl
      have ny : y ∉ ks := fun q => m (List.mem_map.mpr ⟨y, q, rfl⟩)
      obtain ⟨ks', h1, h2, h3, h4⟩ := merge_keys f zs _ (ks ++ [y]) (by rw [e, List.map_append]; rfl) (nodup_snoc n ny)
      refine ⟨ks', h1, h2, fun z => (h3 z).trans ?_, by simp only [List.length_append, List.length_cons, List.length_nil] at h4 ⊢; omega⟩
      simp only [List.mem_append, List.mem_cons, List.mem_singleton, List.not_mem_nil, or_false, or_assoc]
theorem mergeK_nd : ∀ (more acc : List (Key × V)), ((acc ++ more).map (·.1)).Nodup → mergeK acc more = acc ++ more
  | [], acc, _ => by simp [mergeK]
  | p :: r, acc, h => by
    have n : p.1 ∉ acc.map (·.1) := fun m => by
      rw [List.map_append, List.nodup_append] at h
      exact h.2.2 p.1 m p.1 (by simp) rfl
    have e : putK acc p.1 p.2 = acc ++ [p] := putK_new n
    show mergeK (putK acc p.1 p.2) r = _
    rw [e, mergeK_nd r (acc ++ [p]) (by rw [List.append_assoc]; exact h), List.append_assoc]
    rfl
section
variable {P : Program} {w : World} {K : Frag} {mg : Str → Option Value} {base : Heap}
def wordsAll (ts : List Ty) : List Str := ts.flatMap Ty.words
def spPlainWords : Sp := fun vs H Q _ => ∃ (L : Addr) (us : List V) (ts : List Ty), vs = [.ref L] ∧ H L = some (.lst us) ∧ Tys H us ts ∧ ts ≠ [] ∧ (∀ t ∈ ts, t.signs ≤ 30) ∧ (wordsAll ts).length < 64 ∧
  ∀ (R : Addr) (ys : List Str) (H' : Hp), PlainsOf ys ts → Same H H' → H R = none → H' R = some (.lst (ys.map V.str)) → Q (.ref R) H'
theorem flat_words (ts : List Ty) : (ts.map fun t => t.words.map V.str).flatten = (wordsAll ts).map V.str := by
  induction ts with
  | nil => rfl
  | cons t ts ih => rw [List.map_cons, List.flatten_cons, ih, wordsAll, wordsAll, List.flatMap_cons, List.map_append]
theorem ok_plainWords {f fl : Addr} {fd fdl : FuncData} (T : Top K mg "_law_plain_words" sLPlainWords pLPlainWords f fd) (TL : Top K mg "_law_plain_list" sLPlainList pLPlainList fl fdl) (B : Blt mg) : FnOk P w K mg base L2.CX0 32 f fd pLPlainWords spPlainWords := by
  have GL : FnOk P w K mg base L2.CX0 31 fl fdl pLPlainList (spPlainList 30) := ok_plainList TL B 30 (Nat.le_refl _)
  refine T.F.ok scLPlainWords (fun vs H Q E h => ?_) (fun cdv A outer s H vs Q E hr h => ?_)
  · obtain ⟨_, _, _, rfl, _⟩ := h
    rfl
  · obtain ⟨L, us, ts, rfl, eL, hT, hne, hd, hz, k⟩ := h
    refine ⟨_, pss_one (ps_ret (pe_callB (call_sortedD rfl) (by rfl) B.sorted (by decide +kernel) (pa_cons (pe_callTy (call_dictP rfl) (by rfl) B.dict (by decide +kernel) (pa_cons
      (pe_lc (own := [("word", 2)]) (g := gName 2) (tt := tYes) rfl scLPlainWords.nd (pi_list (pe_callB (cr_sumL rfl) (by rfl) B.sum (by decide +kernel) (pa_cons (pe_lc (own := [("kind", 1)]) (g := gName 1) (tt := tYes) rfl scLPlainWords.nd (pi_list (pv 0)) (blkOk_by (N := nLPlainWords) (sc := defScope sLPlainWords) (by decide +kernel)) (fun _ _ _ _ _ => pg_name (i := 1) scLPlainWords.nd rfl (Or.inl rfl)) (fun _ _ _ _ _ => pts_nil) (fun _ _ _ _ _ => (pe_call GL hr rfl TL.g TL.F.kp TL.b .nil pass0 (pa_cons (pv 1) pa_nil)))) (pa_cons (pe_lst pa_nil) pa_nil)))) (blkOk_by (N := nLPlainWords) (sc := defScope sLPlainWords) (by decide +kernel)) (fun _ _ _ _ _ => pg_name (i := 2) scLPlainWords.nd rfl (Or.inl rfl)) (fun _ _ _ _ _ => pts_nil) (fun _ _ _ _ _ => (pe_tup (pa_cons (pv 2) (pa_cons pe_bl pa_nil))))) pa_nil)) pa_nil))), ?_⟩
    refine ⟨_, rfl, L, rfl, ⟨_, SqL.of eL⟩, fun D hD => ?_⟩
    have lT := hT.length
    refine lc_list (K := K) (xs := us) (fun i H' => Same H H' ∧ ∃ as : List Addr, H' D = some (.lst (as.map V.ref)) ∧ Paired (fun (a : Addr) (ys : List V) => a ≠ D ∧ H' a = some (.lst ys)) as ((ts.take i).map fun t => t.words.map V.str))
      ⟨same_upd hD, [], upd_same, by rw [List.take_zero]; exact .nil⟩ (fun i H' _ q => SqL.of (q.1 _ _ eL)) ?_ ?_
    · rintro i x H1 hx ⟨s1, as, eD, hp⟩
      obtain ⟨t, ht, hxt⟩ := hT.at_ hx
      have lp := hp.length
      rw [List.length_map, List.length_take] at lp
      have li : i < ts.length := (List.getElem?_eq_some_iff.mp ht).1
      have lts : ts.length ≤ (wordsAll ts).length := by
        unfold wordsAll
        clear hp hT hd hz k lT eD lp li ht hne
        induction ts with
        | nil => exact Nat.zero_le _
        | cons u r ih =>
          rw [List.flatMap_cons, List.length_append, List.length_cons]
          have := u.words_len
          omega
      refine ⟨rfl, x, rfl, x, t, rfl, hxt.mono (TK.of_same s1), hd t (List.mem_of_getElem? ht), fun R H2 s2 nR eR => ⟨_, s2 _ _ eD, by rw [List.length_map, sizeLine_eq]; omega, ?_, as ++ [R], by rw [upd_same, List.map_append]; rfl, ?_⟩⟩
      · exact same_over (s1.trans s2) hD
      · have nRD : R ≠ D := fun z => by rw [z, eD] at nR; cases nR
        rw [List.take_add_one, ht, List.map_append]
        refine Paired.snoc (L2.Paired.mapP hp fun a ys q => ⟨q.1, ?_⟩) ⟨nRD, ?_⟩
        · rw [upd_ne q.1]
          exact s2 _ _ q.2
        · rw [upd_ne nRD]
          exact eR
    · rintro H1 ⟨s1, as, eD, hp⟩
      rw [lT, List.take_length] at hp
      refine ⟨by show 0 ≤ sizeLine; exact Nat.zero_le _, fun e he => ?_⟩
      have s2 := same_upd (o := .lst []) he
      have lp := hp.length
      rw [List.length_map] at lp
      refine ⟨D, e, as, ts.map fun t => t.words.map V.str, rfl, s2 _ _ eD, upd_same, fun z => hne (by rw [z] at lp; exact List.eq_nil_of_length_eq_zero lp.symm), L2.Paired.mapP hp fun a ys q => s2 _ _ q.2, by rw [flat_words, List.length_map, sizeLine_eq]; omega, fun p np => ?_⟩
      rw [flat_words]
      have s3 : Same H (upd (upd H1 e (.lst [])) p (.lst ((wordsAll ts).map V.str))) := (s1.trans s2).trans (same_upd np)
      refine ⟨p, rfl, ⟨_, SqL.of upd_same⟩, fun D2 hD2 => ?_⟩
      have npD : p ≠ D2 := ne_of_none upd_same hD2
      have hH2 : H D2 = none := s3.free hD2
      refine lc_list (K := K) (xs := (wordsAll ts).map V.str) (fun i H' => Same H H' ∧ H' p = some (.lst ((wordsAll ts).map V.str)) ∧ ∃ ps : List Addr, H' D2 = some (.lst (ps.map V.ref)) ∧ Paired (fun (a : Addr) (kv : Key × V) => a ≠ D2 ∧ H' a = some (.tup [kV kv.1, kv.2])) ps (((wordsAll ts).take i).map fun z => (Sum.inr z, V.bl true)))
        ⟨s3.trans (same_upd hD2), by rw [upd_ne npD, upd_same], [], upd_same, by rw [List.take_zero]; exact .nil⟩ (fun i H' _ q => SqL.of q.2.1) ?_ ?_
      · rintro i x H2 hx ⟨s4, ep, ps, eD2, hq⟩
        rw [List.getElem?_map] at hx
        obtain ⟨z, hzi, rfl⟩ := Option.map_eq_some_iff.mp hx
        obtain ⟨hi, _⟩ := List.getElem?_eq_some_iff.mp hzi
        have lq := hq.length
        rw [List.length_map, List.length_take] at lq
        refine ⟨rfl, _, rfl, by show 2 ≤ sizeLine; rw [sizeLine_eq]; omega, fun r nr => ?_⟩
        have nrD : r ≠ D2 := fun z => by rw [z, eD2] at nr; cases nr
        have s5 := same_upd (o := .tup [.str z, .bl true]) nr
        refine ⟨_, s5 _ _ eD2, by rw [List.length_map, sizeLine_eq]; omega, same_over (s4.trans s5) hH2, by rw [upd_ne npD]; exact s5 _ _ ep, ps ++ [r], by rw [upd_same, List.map_append]; rfl, ?_⟩
        rw [List.take_add_one, hzi, List.map_append]
        refine Paired.snoc (L2.Paired.mapP hq fun a ys q => ⟨q.1, ?_⟩) ⟨nrD, ?_⟩
        · rw [upd_ne q.1]
          exact s5 _ _ q.2
        · rw [upd_ne nrD, upd_same]
          rfl
      · rintro H2 ⟨s4, ep, ps, eD2, hq⟩
        rw [List.length_map, List.take_length] at hq
        refine ⟨D2, ps, _, rfl, SqL.of eD2, L2.Paired.mapP hq fun a ys q => SqT.of q.2, fun q nq => ?_⟩
        obtain ⟨ks, k1, k2, k3, k4⟩ := merge_keys (fun _ => V.bl true) (wordsAll ts) [] [] rfl List.nodup_nil
        have s6 := s4.trans (same_upd (o := .dK (mergeK [] ((wordsAll ts).map fun z => (Sum.inr z, V.bl true)))) nq)
        refine ⟨q, _, ks, rfl, Rd.of upd_same, k1, by simp only [List.length_nil] at k4; omega, fun ys R pm so hR => k R ys _ ⟨so, pm.nodup_iff.mpr k2, fun z => ?_⟩ (s6.trans (same_upd hR)) (s6.free hR) upd_same⟩
        rw [pm.mem_iff, k3 z]
        simp [wordsAll, List.mem_flatMap]
end
end K3

namespace K3
open PySem PySem.Spec PyProof.Rows L2 NdefX LamX KT
open PySem.W (Frag)
/-- two values the other way round -/
def sw {α : Type} : List α → List α
  | [a, b] => [b, a]
  | _ => []
theorem sw_vals {zs : List V} {ws : List Value} (h : Vals zs ws) : Vals (sw zs) (sw ws) := by
  cases h with
  | nil => exact .nil
  | cons a h =>
    cases h with
    | nil => exact .nil
    | cons b h =>
      cases h with
      | nil => exact .cons b (.cons a .nil)
      | cons _ _ => exact .nil
/-- lists of equal things -/
theorem same_list {H : Hp} {k : Nat} {a b : Addr} {xs ys : List V} (ha : H a = some (.lst xs)) (hb : H b = some (.lst ys)) (h : Paired (SameDt H k) xs ys) (hz : xs.length ≤ 1000000) : SameDt H (k + 1) (.ref a) (.ref b) :=
  .inr ⟨a, b, xs, ys, rfl, rfl, .inl ⟨ha, hb⟩, h.length, hz, fun i x y h1 h2 => by
    obtain ⟨y', e1, e2⟩ := paired_get h h1
    rw [h2] at e1
    cases e1
    exact e2⟩
theorem same_tup {H : Hp} {k : Nat} {a b : Addr} {xs ys : List V} (ha : H a = some (.tup xs)) (hb : H b = some (.tup ys)) (h : Paired (SameDt H k) xs ys) (hz : xs.length ≤ 1000000) : SameDt H (k + 1) (.ref a) (.ref b) :=
  .inr ⟨a, b, xs, ys, rfl, rfl, .inr ⟨ha, hb⟩, h.length, hz, fun i x y h1 h2 => by
    obtain ⟨y', e1, e2⟩ := paired_get h h1
    rw [h2] at e1
    cases e1
    exact e2⟩
theorem same_strs {H : Hp} {k : Nat} {a b : Addr} {zs : List Str} (ha : H a = some (.lst (zs.map V.str))) (hb : H b = some (.lst (zs.map V.str))) (hz : zs.length ≤ 1000000) : SameDt H (k + 1) (.ref a) (.ref b) := by
  refine same_list ha hb ?_ (by rw [List.length_map]; exact hz)
  clear ha hb hz
  induction zs with
  | nil => exact .nil
  | cons z r ih => exact .cons (.scl (.s _)) ih
theorem nodup_inr {ys : List Str} (h : ys.Nodup) : (ys.map (Sum.inr : Str → Key)).Nodup := List.pairwise_map.mpr (List.Pairwise.imp (fun n e => n (Sum.inr.inj e)) h)
theorem valV_mem : ∀ {kvs : List (Key × V)} {k : Key}, k ∈ kvs.map (·.1) → ∃ x, valV kvs k = some x ∧ (k, x) ∈ kvs
  | [], k, h => by cases h
  | p :: r, k, h => by
    by_cases e : p.1 = k
    · exact ⟨p.2, valV_pos e, by rw [← e]; exact List.mem_cons_self⟩
    · obtain ⟨x, h1, h2⟩ := valV_mem (kvs := r) (k := k) ((List.mem_cons.mp h).resolve_left fun z => e z.symm)
      exact ⟨x, by rw [valV_neg e]; exact h1, List.mem_cons_of_mem _ h2⟩
theorem valV_nd : ∀ {kvs : List (Key × V)} {k : Key} {x : V}, (kvs.map (·.1)).Nodup → (k, x) ∈ kvs → valV kvs k = some x
  | [], k, x, _, h => by cases h
  | p :: r, k, x, n, h => by
    obtain ⟨n1, n2⟩ := List.nodup_cons.mp (show (p.1 :: r.map (·.1)).Nodup from n)
    rcases List.mem_cons.mp h with e | h
    · rw [← e]
      exact valV_pos rfl
    · have ne : ¬ p.1 = k := fun e => n1 (by rw [e]; exact List.mem_map.mpr ⟨_, h, rfl⟩)
      rw [valV_neg ne]
      exact valV_nd n2 h
theorem TK.upd_dK {H : Hp} {a : Addr} {xs : List (Key × V)} {o : HO} (h : H a = some (.dK xs)) : TK H (upd H a o) := fun p zs e => by
  by_cases c : p = a
  · rw [c, h] at e
    cases e
  · rw [upd_ne c]
    exact e
theorem scl_key (k : Key) : Scl (kV k) := by
  cases k with
  | inl i => exact .i i
  | inr z => exact .s z
/-- two lists of a dictionary's items -/
theorem same_items {H : Hp} {ts us : List Addr} {kvs : List (Key × V)} (h1 : Paired (fun (t : Addr) (q : Key × V) => H t = some (.tup [kV q.1, q.2])) ts kvs) (h2 : Paired (fun (t : Addr) (q : Key × V) => H t = some (.tup [kV q.1, q.2])) us kvs)
    (h : ∀ q ∈ kvs, SameDt H 2 q.2 q.2) : Paired (SameDt H 3) (ts.map V.ref) (us.map V.ref) := by
  induction h1 generalizing us with
  | nil => cases h2; exact .nil
  | cons e _ ih =>
    cases h2 with
    | cons e' r' => exact .cons (same_tup e e' (.cons (.scl (scl_key _)) (.cons (h _ List.mem_cons_self) .nil)) (by show 2 ≤ 1000000; omega)) (ih r' fun q hq => h q (List.mem_cons_of_mem _ hq))
section
variable {P : Program} {w : World} {K : Frag} {mg : Str → Option Value} {base : Heap} {PF PT PP : Addr}
def spKindRight (PF PT PP : Addr) : Sp := fun vs H Q _ => ∃ (a L : Addr) (n : Nat) (zs : List Str) (x : V) (t : Ty), vs = [.ref a, .ref L, x] ∧ PurseAt H a n ∧ n ≤ 400000000000 ∧ L ≠ a ∧ H L = some (.lst (zs.map V.str)) ∧ Plains zs ∧
  TyAt H x t ∧ t.signs ≤ 6 ∧ (∀ z ∈ t.words, z ∈ zs) ∧ Tabs (T3 PF PT PP) H ∧ ∀ H', KN a H H' → Tabs (T3 PF PT PP) H' → PurseAt H' a (n + 100) → Q (.bl true) H'
/-- what the law's right calls of a type stand upon -/
structure TRs (P : Program) (w : World) (K : Frag) (mg : Str → Option Value) (base : Heap) (PF PT PP fPW fX fS fP fF fE fI fT fLT fSh fK fD fPF fLP : Addr) (dPW dX dS dP dF dE dI dT dLT dSh dK dD dPF dLP : FuncData) : Prop where
  TPW : Top K mg "_law_plain_words" sLPlainWords pLPlainWords fPW dPW
  TX : Top K mg "_law_text" sLText pLText fX dX
  TS : Top K mg "signs_of" sSignsOf pSignsOf fS dS
  TP : Top K mg "plains_of" sPlainsOf pPlainsOf fP dP
  TF : Top K mg "is_free" sIsFree pIsFree fF dF
  TE : Top K mg "_law_exact" sLExact pLExact fE dE
  TI : Top K mg "is_kind" sIsKind pIsKind fI dI
  TT : Top K mg "turned" sTurned pTurned fT dT
  TLT : Top K mg "_law_turned" sLTurned pLTurned fLT dLT
  TSh : Top K mg "_law_shuffled" sLShuffled pLShuffled fSh dSh
  TKd : Top K mg "_law_kind" sLKind pLKind fK dK
  TD : Top K mg "_law_draw" sLDraw ["purse", "many"] fD dD
  TPF : Top K mg "put_for" sPutFor pPutFor fPF dPF
  TLP : Top K mg "_law_put" sLPut pLPut fLP dLP
  GPW : FnOk P w K mg base L2.CX0 32 fPW dPW pLPlainWords spPlainWords
  GX : FnOk P w K mg base L2.CX0 31 fX dX pLText (spText 30)
  GS : FnOk P w K mg base L2.CX0 4 fS dS pSignsOf spSignsOf
  GP : FnOk P w K mg base L2.CX0 5 fP dP pPlainsOf spPlainsOf
  GF : FnOk P w K mg base L2.CX0 4 fF dF pIsFree spIsFree
  GE : FnOk P w K mg base L2.CX0 41 fE dE pLExact (spExact 40)
  GI : FnOk P w K mg base L2.CX0 2 fI dI pIsKind spIsKind
  GT : FnOk P w K mg base L2.CX0 5 fT dT pTurned (spTurned PF PT PP)
  GLT : FnOk P w K mg base L2.CX0 31 fLT dLT pLTurned (spLTurned 30)
  GSh : FnOk P w K mg base L2.CX0 3 fSh dSh pLShuffled spShuffled
  GK : FnOk P w K mg base L2.CX0 6 fK dK pLKind (spKind 2)
  GD : FnOk P w K mg base L2.CX0 2 fD dD ["purse", "many"] spDraw
  GPF : FnOk P w K mg base L2.CX0 6 fPF dPF pPutFor (spPutFor PF PT PP)
  GLP : FnOk P w K mg base L2.CX0 31 fLP dLP pLPut (spLPut 30)
theorem ok_kindRight {f fPW fX fS fP fF fE fI fT fLT fSh fK fD fPF fLP : Addr} {fd dPW dX dS dP dF dE dI dT dLT dSh dK dD dPF dLP : FuncData} (T : Top K mg "_law_kind_right" sLKindRight pLKindRight f fd)
    (R : TRs P w K mg base PF PT PP fPW fX fS fP fF fE fI fT fLT fSh fK fD fPF fLP dPW dX dS dP dF dE dI dT dLT dSh dK dD dPF dLP) (B : Blt mg) : FnOk P w K mg base L2.CX0 42 f fd pLKindRight (spKindRight PF PT PP) := by
  obtain ⟨TPW, TX, TS, TP, TF, TE, TI, TT, TLT, TSh, TKd, TD, TPF, TLP, GPW, GX, GS, GP, GF, GE, GI, GT, GLT, GSh, GK, GD, GPF, GLP⟩ := R
  have KB1 : ∀ {x : Str} {st : Stmt} {f : Addr} {fd : FuncData}, Fun K x x st f fd → True := fun _ => trivial
  have KS := KT.kbinds_mk (ps := ["kind"]) (ks := ["kind"]) TS.F (by decide) (fun {α} ws => ws) (fun _ _ _ _ _ _ ws hl => match ws, hl with | [_], _ => rfl) (fun r => r)
  have KP := KT.kbinds_mk (ps := ["kind"]) (ks := ["kind"]) TP.F (by decide) (fun {α} ws => ws) (fun _ _ _ _ _ _ ws hl => match ws, hl with | [_], _ => rfl) (fun r => r)
  have KF := KT.kbinds_mk (ps := ["kind"]) (ks := ["kind"]) TF.F (by decide) (fun {α} ws => ws) (fun _ _ _ _ _ _ ws hl => match ws, hl with | [_], _ => rfl) (fun r => r)
  have KT_ := KT.kbinds_mk (ps := ["kind"]) (ks := ["kind"]) TT.F (by decide) (fun {α} ws => ws) (fun _ _ _ _ _ _ ws hl => match ws, hl with | [_], _ => rfl) (fun r => r)
  have KU := KT.kbinds_mk (ps := ["kind", "sent"]) (ks := ["sent", "kind"]) TPF.F (by decide) (fun {α} ws => sw ws) (fun _ _ _ _ _ _ ws hl => match ws, hl with | [_, _], _ => rfl) sw_vals
  refine T.F.ok scLKindRight (fun vs H Q E h => ?_) (fun cdv A outer s H vs Q E hr h => ?_)
  · obtain ⟨_, _, _, _, _, _, rfl, _⟩ := h
    rfl
  · obtain ⟨a, L, n, zs, x, t, rfl, hp, hn, nLa, eL, hz, hx, hs, hw, hT, k⟩ := h
    have hu := hu_of hr
    have hr2 : Room 2 _ := hr.mono (by decide)
    have hr3 : Room 3 _ := hr.mono (by decide)
    have hr4 : Room 4 _ := hr.mono (by decide)
    have hr5 : Room 5 _ := hr.mono (by decide)
    have hr6 : Room 6 _ := hr.mono (by decide)
    have hr31 : Room 31 _ := hr.mono (by decide)
    have hr32 : Room 32 _ := hr.mono (by decide)
    refine ⟨_, (pss_cons (ps_set (i := 3) scLKindRight.nd rfl (Or.inl rfl) (pe_call GPW hr32 rfl TPW.g TPW.F.kp TPW.b .nil pass0 (pa_cons (pe_lst (pa_cons (pv 2) pa_nil)) pa_nil)))
      (pss_cons (ps_set (i := 4) scLKindRight.nd rfl (Or.inl rfl) (pe_lst (pa_cons (pe_op op_fdiv (pe_callB call_len_seq (by rfl) B.len PySem.boot_len (pa_cons (pe_split (pe_call GX hr31 rfl TX.g TX.F.kp TX.b .nil pass0 (pa_cons (pv 2) pa_nil)) pe_str) pa_nil)) pe_int) (pa_cons (pv 3) (pa_cons (pe_cmpR op_notIn_str pe_str (pe_call GX hr31 rfl TX.g TX.F.kp TX.b .nil pass0 (pa_cons (pv 2) pa_nil)) (by rfl)) pa_nil)))))
      (pss_cons (ps_set (i := 5) scLKindRight.nd rfl (Or.inl rfl) (pe_lst (pa_cons (KT.pe_callK0 GS hr4 rfl TS.g TS.F.kp KS pass0 (pk_cons (pv 2) pk_nil)) (pa_cons (KT.pe_callK0 GP hr5 rfl TP.g TP.F.kp KP pass0 (pk_cons (pv 2) pk_nil)) (pa_cons (KT.pe_callK0 GF hr4 rfl TF.g TF.F.kp KF pass0 (pk_cons (pv 2) pk_nil)) pa_nil)))))
      (pss_cons (ps_if (PW.pt (pw_or (pt_not (pt_val (pe_call GE hr rfl TE.g TE.F.kp TE.b .nil pass0 (pa_cons (pv 5) (pa_cons (pv 4) pa_nil))))) (pw_or1 (pt_cmpR op_isnot_bl (pe_call GI hr2 rfl TI.g TI.F.kp TI.b .nil pass0 (pa_cons (pv 2) pa_nil)) pe_bl (by rfl))))) pss_never pss_nil)
      (pss_cons (ps_expr (pe_bm PySem.F.plainAttrs_list PySem.F.slot_list_append PySem.F.type_list_append mt_append (pe_ix ix_list (pv 5) pe_int (fun _ _ => rfl)) (pa_cons pe_str pa_nil)))
      (pss_cons (ps_set (i := 6) scLKindRight.nd rfl (Or.inl rfl) (KT.pe_callK0 GT hr5 rfl TT.g TT.F.kp KT_ pass0 (pk_cons (pv 2) pk_nil)))
      (pss_cons (ps_if (pt_not (pt_val (pe_call GE hr rfl TE.g TE.F.kp TE.b .nil pass0 (pa_cons (pe_lst (pa_cons (pv 6) (pa_cons (pe_call GT hr5 rfl TT.g TT.F.kp TT.b .nil pass0 (pa_cons (pv 6) pa_nil)) (pa_cons (pe_call GP hr5 rfl TP.g TP.F.kp TP.b .nil pass0 (pa_cons (pv 2) pa_nil)) pa_nil)))) (pa_cons (pe_lst (pa_cons (pe_call GLT hr31 rfl TLT.g TLT.F.kp TLT.b .nil pass0 (pa_cons (pv 2) pa_nil)) (pa_cons (pv 2) (pa_cons (pv 3) pa_nil)))) pa_nil))))) pss_never pss_nil)
      (pss_cons (ps_set (i := 7) scLKindRight.nd rfl (Or.inl rfl) (pe_callTy (call_dictP rfl) (by rfl) B.dict (by decide +kernel) (pa_cons (pe_lc (own := [("word", 11)]) (g := gName 11) (tt := tYes) rfl scLKindRight.nd (pi_list (pe_call GSh hr3 rfl TSh.g TSh.F.kp TSh.b .nil pass0 (pa_cons (pv 0) (pa_cons (pv 3) pa_nil)))) (blkOk_by (N := nLKindRight) (sc := defScope sLKindRight) (by decide +kernel)) (fun _ _ _ _ _ => pg_name (i := 11) scLKindRight.nd rfl (Or.inl rfl)) (fun _ _ _ _ _ => pts_nil) (fun _ _ _ _ _ => (pe_tup (pa_cons (pv 11) (pa_cons (pe_call GK hr6 rfl TKd.g TKd.F.kp TKd.b .nil pass0 (pa_cons (pv 0) (pa_cons (pv 1) (pa_cons (pe_call GD hr2 rfl TD.g TD.F.kp TD.b .nil pass0 (pa_cons (pv 0) (pa_cons pe_int pa_nil))) pa_nil)))) pa_nil))))) pa_nil)))
      (pss_cons (ps_set (i := 8) scLKindRight.nd rfl (Or.inl rfl) (LiI.pe_listItems rfl (pv 7) (by rfl) B.list (by decide +kernel)))
      (pss_cons (ps_set (i := 5) scLKindRight.nd rfl (Or.inl rfl) (KT.pe_callK0 GPF hr6 rfl TPF.g TPF.F.kp KU pass0 (pk_cons (pv 7) (pk_cons (pv 2) pk_nil))))
      (pss_cons (ps_if (pt_not (pt_val (pe_call GE hr rfl TE.g TE.F.kp TE.b .nil pass0 (pa_cons (pe_lst (pa_cons (pv 5) (pa_cons (LiI.pe_listItems rfl (pv 7) (by rfl) B.list (by decide +kernel)) pa_nil))) (pa_cons (pe_lst (pa_cons (pe_call GLP hr31 rfl TLP.g TLP.F.kp TLP.b .nil pass0 (pa_cons (pv 2) (pa_cons (pv 7) pa_nil))) (pa_cons (pv 8) pa_nil))) pa_nil))))) pss_never pss_nil)
      (pss_cons (ps_expr (pe_dclear (pv 7)))
      (pss_cons (ps_par (i := 9) (j := 10) rfl scLKindRight.nd rfl rfl (by decide) rfl rfl (pa_cons (pe_callTy (call_dictP rfl) (by rfl) B.dict (by decide +kernel) (pa_cons (pe_lc (own := [("word", 11)]) (g := gName 11) (tt := tYes) rfl scLKindRight.nd (pi_list (pv 3)) (blkOk_by (N := nLKindRight) (sc := defScope sLKindRight) (by decide +kernel)) (fun _ _ _ _ _ => pg_name (i := 11) scLKindRight.nd rfl (Or.inl rfl)) (fun _ _ _ _ _ => pts_nil) (fun _ _ _ _ _ => (pe_tup (pa_cons (pv 11) (pa_cons (pv 11) pa_nil))))) pa_nil)) (pa_cons (pe_callTy (call_dictP rfl) (by rfl) B.dict (by decide +kernel) (pa_cons
        (pe_lc (own := [("word", 11), ("late", 6)]) (g := gTup K 2 (gCons (gName 11) (gCons (gName 6) gNil))) (tt := tYes) rfl scLKindRight.nd (pi_list (pv 8)) (blkOk_by (N := nLKindRight) (sc := defScope sLKindRight) (by decide +kernel)) (fun _ _ _ _ _ => pg_tup (by rfl) (pgs_cons (pg_name (i := 11) scLKindRight.nd rfl (Or.inl rfl)) (pgs_cons (pg_name (i := 6) scLKindRight.nd rfl (Or.inl rfl)) pgs_nil))) (fun _ _ _ _ _ => pts_nil)
          (fun _ _ _ _ _ => (pe_tup (pa_cons (pv 11) (pa_cons (pe_call GLT hr31 rfl TLT.g TLT.F.kp TLT.b .nil pass0 (pa_cons (pv 6) pa_nil)) pa_nil))))) pa_nil)) pa_nil)) (by rfl))
      (pss_cons (ps_set (i := 4) scLKindRight.nd rfl (Or.inl rfl) (pe_lst (pa_cons (pe_call GLP hr31 rfl TLP.g TLP.F.kp TLP.b .nil pass0 (pa_cons (pv 2) (pa_cons (pe_callTy (call_dictP rfl) (by rfl) B.dict (by decide +kernel) (pa_cons (pv 8) pa_nil)) pa_nil))) (pa_cons (pv 2) (pa_cons (pe_call GLP hr31 rfl TLP.g TLP.F.kp TLP.b .nil pass0 (pa_cons (pe_call GLT hr31 rfl TLT.g TLT.F.kp TLT.b .nil pass0 (pa_cons (pv 2) pa_nil)) (pa_cons (pv 10) pa_nil))) pa_nil)))))
      (pss_one (ps_ret (pe_call GE hr rfl TE.g TE.F.kp TE.b .nil pass0 (pa_cons (pe_lst (pa_cons (pv 5) (pa_cons (pe_call GPF hr6 rfl TPF.g TPF.F.kp TPF.b .nil pass0 (pa_cons (pv 2) (pa_cons (pv 9) pa_nil))) (pa_cons (pe_call GT hr5 rfl TT.g TT.F.kp TT.b .nil pass0 (pa_cons (pe_call GPF hr6 rfl TPF.g TPF.F.kp TPF.b .nil pass0 (pa_cons (pv 2) (pa_cons (pe_callTy (call_dictP rfl) (by rfl) B.dict (by decide +kernel) (pa_cons (pv 8) pa_nil)) pa_nil))) pa_nil)) pa_nil)))) (pa_cons (pv 4) pa_nil))))))))))))))))))), ?_⟩
    have hzt : t.size ≤ 13 := by rw [t.size_signs]; omega
    have wOk := hx.wOk
    have hwl : t.words.length ≤ 7 := by rw [t.words_len]; omega
    -- words
    refine ⟨x, rfl, by show 1 ≤ sizeLine; rw [sizeLine_eq]; omega, fun p1 hp1 => ?_⟩
    have s1 : Same H (upd H p1 (.lst [x])) := same_upd hp1
    refine ⟨p1, [x], [t], rfl, upd_same, .cons (hx.mono (TK.of_same s1)) .nil, by simp, fun u hu => ?_, by simp [wordsAll]; omega, fun W ys H1 hys s2 nW eW => ?_⟩
    · rw [List.mem_singleton.mp hu]
      omega
    have s01 := s1.trans s2
    have lys : ys.length ≤ 7 := Nat.le_trans (K3.nodup_len _ _ hys.nd fun z hz' => by simpa using (hys.mem z).mp hz') hwl
    -- due
    have elen : (((Txt.split t.text (" " : Str)).map V.str).length : Int) / 2 = (t.signs : Int) := by
      have := text_split t wOk
      rw [List.length_map, this]
      omega
    refine ⟨x, rfl, x, t, rfl, hx.mono (TK.of_same s01), by omega, ⟨_, rfl⟩, t.text, _, rfl, rfl, rfl, by have := t.text_len wOk; rw [sizeLine_eq]; omega, fun q nq => ?_⟩
    have s02 : Same H (upd H1 q (.lst ((Txt.split t.text (" " : Str)).map V.str))) := s01.trans (same_upd nq)
    refine ⟨q, _, rfl, .inl (SqL.of upd_same), _, _, rfl, rfl, ⟨by decide, by decide⟩, _, rfl, x, rfl, x, t, rfl, hx.mono (TK.of_same s02), by omega, _, _, rfl, rfl, by show 3 ≤ sizeLine; rw [sizeLine_eq]; omega, fun due ndue => ?_⟩
    dsimp only
    rw [elen, text_then t wOk]
    have s2r : Same H (upd (upd H1 q (.lst ((Txt.split t.text (" " : Str)).map V.str))) due (.lst [.int t.signs, .ref W, .bl t.free])) := s02.trans (same_upd ndue)
    have sq : Same H1 (upd (upd H1 q (.lst ((Txt.split t.text (" " : Str)).map V.str))) due (.lst [.int t.signs, .ref W, .bl t.free])) := (same_upd nq).trans (same_upd ndue)
    have eD2 := upd_same (H := upd H1 q (.lst ((Txt.split t.text (" " : Str)).map V.str))) (a := due) (o := .lst [.int t.signs, .ref W, .bl t.free])
    have eW2 := sq _ _ eW
    generalize upd (upd H1 q (.lst ((Txt.split t.text (" " : Str)).map V.str))) due (.lst [.int t.signs, .ref W, .bl t.free]) = H2 at s2r sq eD2 eW2
    -- told
    refine ⟨x, rfl, x, t, rfl, hx.mono (TK.of_same s2r), by omega, fun H3 s3 => ⟨x, rfl, x, t, rfl, hx.mono (TK.of_same (s2r.trans s3)), by omega, fun R ys2 H4 hys2 s4 nR eR => ⟨x, rfl, x, t, rfl, hx.mono (TK.of_same ((s2r.trans s3).trans s4)), by omega, fun H5 s5 => ⟨by show 3 ≤ sizeLine; rw [sizeLine_eq]; omega, fun told ntold => ?_⟩⟩⟩⟩
    obtain rfl : ys2 = ys := hys2.uniq hys
    have s03 := s2r.trans s3
    have s05 := (s03.trans s4).trans s5
    have st := same_upd (o := .lst [.int t.signs, .ref R, .bl t.free]) ntold
    have sd : Same H2 (upd H5 told (.lst [.int t.signs, .ref R, .bl t.free])) := ((s3.trans s4).trans s5).trans st
    have eD := sd _ _ eD2
    have eW5 := sd _ _ eW2
    have eR5 := st _ _ (s5 _ _ eR)
    refine ⟨_, rfl, _, rfl, .ref told, .ref due, rfl, ?_, fun H6 s6 => ⟨true, rfl, iteF ⟨x, rfl, x, t, rfl, hx.mono (TK.of_same ((s05.trans st).trans s6)), by omega, fun H7 s7 => ⟨_, _, rfl, rfl, false, rfl, iteF ?_⟩⟩⟩⟩
    · exact (same_list (k := 1) upd_same eD (.cons (.scl (.i _)) (.cons (same_strs eR5 eW5 (by omega)) (.cons (.scl (.b _)) .nil))) (by show 3 ≤ 1000000; omega)).le (by omega)
    have s57 : Same (upd H5 told (.lst [.int t.signs, .ref R, .bl t.free])) H7 := s6.trans s7
    have s07 : Same H H7 := (s05.trans st).trans s57
    have eT7 := s57 _ _ (upd_same (H := H5) (a := told) (o := .lst [.int t.signs, .ref R, .bl t.free]))
    have eR7 := s57 _ _ eR5
    have eW7 := s57 _ _ eW5
    have nR0 : H R = none := s03.free nR
    have nWR : W ≠ R := ne_of_none (s3 _ _ eW2) nR
    have naR := hp.ne nR0
    have naW := hp.ne (s1.free nW)
    refine ⟨_, rfl, told, _, _, _, rfl, rfl, SqL.of eT7, atI_nat (j := 1) rfl, .inl ⟨rfl, _, SqL.of eR7⟩, R, _, _, rfl, rfl, eR7, by rw [List.length_map, sizeLine_eq]; omega, ?_⟩
    have g8 : KN a H (upd H7 R (.lst (ys2.map V.str ++ [.str "more"]))) := (KN.refl a H).upd nR0 (.of_same s07)
    have hp8 : PurseAt (upd H7 R (.lst (ys2.map V.str ++ [.str "more"]))) a n := (hp.same s07).upd naR
    have hT8 : Tabs (T3 PF PT PP) (upd H7 R (.lst (ys2.map V.str ++ [.str "more"]))) := tabs_lst (hT.ext s07) eR7
    have eW8 : upd H7 R (.lst (ys2.map V.str ++ [.str "more"])) W = some (.lst (ys2.map V.str)) := by rw [upd_ne nWR]; exact eW7
    generalize upd H7 R (.lst (ys2.map V.str ++ [.str "more"])) = H8 at g8 hp8 hT8 eW8
    -- late
    refine ⟨x, rfl, x, t, rfl, hx.mono (g8.tk hp), by omega, hT8, fun v1 H9 e9 T9 hv1 => ?_⟩
    have g9 : KN a H H9 := g8.trans (.of_ext e9)
    have st2 := t.turned.size_signs
    have sg2 := t.signs_turned
    refine ⟨_, rfl, v1, rfl, v1, t.turned, rfl, hv1, by omega, T9, fun v2 H10 e10 T10 hv2 => ⟨x, rfl, x, t, rfl, hx.mono ((g9.trans (.of_ext e10)).tk hp), by omega, fun R2 ys3 H11 hys3 s11 nR2 eR2 => ⟨by show 3 ≤ sizeLine; rw [sizeLine_eq]; omega, fun l1 nl1 => ⟨x, rfl, x, t, rfl, hx.mono (((g9.trans (.of_ext e10)).trans (.of_same (s11.trans (same_upd nl1)))).tk hp), by omega, fun v3 H13 s13 hv3 => ⟨x, rfl, _, rfl, by show 3 ≤ sizeLine; rw [sizeLine_eq]; omega, fun l2 nl2 => ?_⟩⟩⟩⟩⟩
    have s14 : Same (upd H11 l1 (.lst [v1, v2, .ref R2])) (upd H13 l2 (.lst [v3, x, .ref W])) := s13.trans (same_upd nl2)
    have s11b : Same H11 (upd H13 l2 (.lst [v3, x, .ref W])) := (same_upd nl1).trans s14
    have g11 := (g9.trans (.of_ext e10)).trans (.of_same s11)
    have g14 := g11.trans (.of_same s11b)
    have eW11 := s11 _ _ (ExtN.lst e10 (ExtN.lst e9 eW8))
    have eW14 := s11b _ _ eW11
    have e1_14 := s14 _ _ (upd_same (H := H11) (a := l1) (o := .lst [v1, v2, .ref R2]))
    have e2_14 := upd_same (H := H13) (a := l2) (o := .lst [v3, x, .ref W])
    have hv3' := hv3.mono (TK.upd_new (o := .lst [v3, x, .ref W]) nl2)
    generalize upd H13 l2 (.lst [v3, x, .ref W]) = H14 at s14 s11b g14 eW14 e1_14 e2_14 hv3'
    obtain rfl : ys3 = ys2 := hys3.uniq hys
    have tk9 : TK H9 H14 := (ExtN.tk e10).trans (TK.of_same (s11.trans s11b))
    have hv2' : TyAt H10 v2 t := by rw [t.turned2] at hv2; exact hv2
    refine ⟨.ref l1, .ref l2, rfl, ?_, fun H15 s15 => ⟨true, rfl, iteF ?_⟩⟩
    · refine (same_list (k := 13) e1_14 e2_14 (.cons ((SameDt.ty (hv1.mono tk9) hv3').le (by omega)) (.cons ((SameDt.ty (hv2'.mono (TK.of_same (s11.trans s11b))) (hx.mono (g14.tk hp))).le (by omega)) (.cons ((same_strs (k := 0) (s11b _ _ eR2) eW14 (by omega)).le (by omega)) .nil))) (by show 3 ≤ 1000000; omega)).le (by omega)
    have s11c : Same H11 H15 := s11b.trans s15
    have g15 := g11.trans (.of_same s11c)
    have hp15 : PurseAt H15 a n := (((hp8.ext e9).ext e10).same s11).same s11c
    have T15 : Tabs (T3 PF PT PP) H15 := (T10.ext s11).ext s11c
    have eW15 := s15 _ _ eW14
    have eL15 := g15.lst eL nLa
    clear s14 s11b g14 eW14 e1_14 e2_14 hv3' tk9 hv2' s11c
    -- sent
    refine ⟨_, rfl, _, rfl, a, W, n, ys3, rfl, hp15, by omega, naW.symm, eW15, by omega, fun R3 ys4 H16 pm kb16 nR3 eR3 hp16 => ⟨R3, rfl, ⟨_, SqL.of eR3⟩, fun D nD => ?_⟩⟩
    have g16 : KN a H H16 := g15.trans (.of_but kb16)
    have T16 := tabs_purse T15 hp15 kb16
    have eW16 := kb16 _ _ eW15 naW.symm
    have eL16 := kb16 _ _ eL15 nLa
    have nR3a := (hp15.ne nR3).symm
    have naD := hp16.ne nD
    have nd4 : ys4.Nodup := pm.nodup_iff.mpr hys.nd
    have m4 : ∀ z, z ∈ ys4 ↔ z ∈ t.words := fun z => pm.mem_iff.trans ((hys.mem z).trans (by simp))
    have l4 : ys4.length ≤ 7 := by rw [pm.length_eq]; exact lys
    refine lc_list (K := K) (xs := ys4.map V.str) (fun i H' => KeepBut a H16 H' ∧ PurseAt H' a (n + 7 + 8 * i) ∧ ∃ (ps : List Addr) (kvs : List (Key × V)), H' D = some (.lst (ps.map V.ref)) ∧ kvs.map (·.1) = (ys4.take i).map Sum.inr ∧
        Paired (fun (p : Addr) (kv : Key × V) => p ≠ D ∧ p ≠ a ∧ H' p = some (.tup [kV kv.1, kv.2])) ps kvs ∧ ∀ kv ∈ kvs, ∃ u : Ty, TyAt H' kv.2 u ∧ u.signs ≤ 2)
      ⟨(KeepBut.refl a H16).upd_new nD, (hp16.mono (by omega)).upd naD, [], [], upd_same, by simp, .nil, fun kv h => by cases h⟩ (fun i H' _ q => SqL.of (q.1 _ _ eR3 nR3a)) ?_ ?_
    · rintro i y H17 hy ⟨kb, hpp, ps, kvs, eD, ek, hq, hu⟩
      rw [List.getElem?_map] at hy
      obtain ⟨z, hzi, rfl⟩ := Option.map_eq_some_iff.mp hy
      obtain ⟨hi, _⟩ := List.getElem?_eq_some_iff.mp hzi
      have eL17 := kb _ _ eL16 nLa
      refine ⟨rfl, _, rfl, _, rfl, _, rfl, _, rfl, a, _, 3, rfl, hpp, by omega, by omega, by omega, fun d H18 c0 c1 off hp18 => ?_⟩
      obtain ⟨m, rfl⟩ : ∃ m : Nat, d = (m : Int) := ⟨d.toNat, by omega⟩
      have kb18 : KeepBut a H17 H18 := .of_off off
      refine ⟨a, L, _, m, zs, rfl, hp18, by omega, nLa, kb18 _ _ eL17 nLa, hz, by omega, fun v u H19 hv hsg hws kb19 hp19 => ⟨by show 2 ≤ sizeLine; rw [sizeLine_eq]; omega, fun r nr => ?_⟩⟩
      have kbt : KeepBut a H16 H19 := kb.trans (kb18.trans kb19)
      have eD19 := kb19 _ _ (kb18 _ _ eD naD.symm) naD.symm
      have nrD : r ≠ D := fun z => by rw [z, eD19] at nr; cases nr
      have nar := hp19.ne nr
      have eD20 := same_upd (o := .tup [.str z, v]) nr _ _ eD19
      have lq := hq.length
      have lk := congrArg List.length ek
      rw [List.length_map, List.length_map, List.length_take] at lk
      have tk21 : TK H19 (upd (upd H19 r (.tup [.str z, v])) D (.lst (ps.map V.ref ++ [.ref r]))) := (TK.upd_new nr).trans (TK.upd_lst eD20)
      refine ⟨_, eD20, by rw [List.length_map, sizeLine_eq]; omega, fun b o e nb => ?_, ((hp19.mono (by omega)).upd nar).upd naD, ps ++ [r], kvs ++ [(Sum.inr z, v)], by rw [upd_same, List.map_append]; rfl, ?_, ?_, ?_⟩
      · have q := kbt b o e nb
        rw [upd_ne (ne_of_none e nD), upd_ne (ne_of_none q nr)]
        exact q
      · rw [List.map_append, ek, List.take_add_one, hzi, List.map_append]
        rfl
      · refine Paired.snoc (L2.Paired.mapP hq fun p kv q => ⟨q.1, q.2.1, ?_⟩) ⟨nrD, nar.symm, ?_⟩
        · have q3 := kb19 _ _ (kb18 _ _ q.2.2 q.2.1) q.2.1
          rw [upd_ne q.1, upd_ne (ne_of_none q3 nr)]
          exact q3
        · rw [upd_ne nrD, upd_same]
          rfl
      · intro kv hkv
        rcases List.mem_append.mp hkv with h | h
        · obtain ⟨u', h1, h2⟩ := hu kv h
          exact ⟨u', h1.mono ((TK.of_keepBut (kb18.trans kb19) hpp).trans tk21), h2⟩
        · rw [List.mem_singleton.mp h]
          exact ⟨u, hv.mono tk21, by omega⟩
    · rintro H17 ⟨kb17, hp17, ps, kvs, eD, ek, hq, hu⟩
      rw [List.length_map, List.take_length] at ek
      refine ⟨D, ps, kvs, rfl, SqL.of eD, L2.Paired.mapP hq fun p kv q => SqT.of q.2.2, fun sent nsent => ?_⟩
      rw [mergeK_nd kvs [] (by rw [List.nil_append, ek]; exact nodup_inr nd4), List.nil_append]
      have g17 : KN a H H17 := g16.trans (.of_but kb17)
      have ss := same_upd (o := .dK kvs) nsent
      have g22 := g17.trans (.of_same ss)
      have T22 := (tabs_purse T16 hp16 kb17).ext ss
      have hp22 := hp17.same ss
      have eW17 := kb17 _ _ eW16 naW.symm
      have eW22 := ss _ _ eW17
      have hd22 := upd_same (H := H17) (a := sent) (o := .dK kvs)
      have nWs := ne_of_none eW17 nsent
      have nas := hp17.ne nsent
      have hu22 : ∀ kv ∈ kvs, ∃ u : Ty, TyAt (upd H17 sent (.dK kvs)) kv.2 u ∧ u.signs ≤ 2 := fun kv h => by
        obtain ⟨u, h1, h2⟩ := hu kv h
        exact ⟨u, h1.mono (TK.of_same ss), h2⟩
      generalize upd H17 sent (.dK kvs) = H22 at ss g22 T22 hp22 eW22 hd22 hu22
      have ndk : (kvs.map (·.1)).Nodup := by rw [ek]; exact nodup_inr nd4
      have lk : kvs.length = ys4.length := by have := congrArg List.length ek; rw [List.length_map, List.length_map] at this; exact this
      obtain ⟨m, hm⟩ : ∃ m : Str → Ty, ∀ z ∈ t.words, ∃ x', valV kvs (Sum.inr z) = some x' ∧ TyAt H22 x' (m z) ∧ (m z).signs ≤ 2 := by
        have hh : ∀ z, ∃ u : Ty, z ∈ t.words → ∃ x', valV kvs (Sum.inr z) = some x' ∧ TyAt H22 x' u ∧ u.signs ≤ 2 := fun z => by
          by_cases hz' : z ∈ t.words
          · obtain ⟨x', h1, h2⟩ := valV_mem (kvs := kvs) (k := Sum.inr z) (by rw [ek]; exact List.mem_map.mpr ⟨z, (m4 z).mpr hz', rfl⟩)
            obtain ⟨u, h3, h4⟩ := hu22 _ h2
            exact ⟨u, fun _ => ⟨x', h1, h3, h4⟩⟩
          · exact ⟨.w z, fun h => absurd h hz'⟩
        exact ⟨fun z => Classical.choose (hh z), fun z => Classical.choose_spec (hh z)⟩
      have msz : ∀ z ∈ t.words, (m z).signs ≤ 2 := fun z hz' => by obtain ⟨_, _, _, h⟩ := hm z hz'; exact h
      have psz := t.put_signs m 2 msz
      have hmk : ∀ {H' : Hp}, TK H22 H' → ∀ z ∈ t.words, ∃ x', valV kvs (Sum.inr z) = some x' ∧ TyAt H' x' (m z) := fun tk z hz' => by
        obtain ⟨x', h1, h2, _⟩ := hm z hz'
        exact ⟨x', h1, h2.mono tk⟩
      -- kept
      refine ⟨_, rfl, sent, kvs, rfl, hd22, fun H23 kept ts1 k1 k2 k3 k4 k5 k6 => ?_⟩
      have s23 : Same H22 H23 := k1
      have g23 := g22.trans (.of_same s23)
      -- told
      refine ⟨_, rfl, _, rfl, x, t, sent, kvs, ys4, m, rfl, hx.mono (g23.tk hp), by omega, T22.ext s23, s23 _ _ hd22, lk, nd4, m4, fun z hz' => ?_, fun v4 H24 e24 T24 hv4 => ?_⟩
      · obtain ⟨x', h1, h2, h3⟩ := hm z hz'
        exact ⟨x', h1, h2.mono (TK.of_same s23), by have := (m z).size_signs; omega⟩
      have g24 := g23.trans (.of_ext e24)
      have hd24 := ExtN.dK e24 (s23 _ _ hd22)
      refine ⟨_, rfl, _, rfl, sent, kvs, rfl, hd24, fun H25 kl2 ts2 j1 j2 j3 j4 j5 j6 => ⟨by show 2 ≤ sizeLine; rw [sizeLine_eq]; omega, fun l3 nl3 => ?_⟩⟩
      have s25 : Same H24 H25 := j1
      have s26 := same_upd (o := .lst [v4, .ref kl2]) nl3
      have tk26 : TK H22 (upd H25 l3 (.lst [v4, .ref kl2])) := (TK.of_same s23).trans ((ExtN.tk e24).trans (TK.of_same (s25.trans s26)))
      refine ⟨_, rfl, _, rfl, x, t, sent, kvs, m, rfl, hx.mono ((g24.trans (.of_same (s25.trans s26))).tk hp), by omega, s26 _ _ (s25 _ _ hd24), hmk tk26, fun v5 H27 s27 hv5 => ⟨_, rfl, by show 2 ≤ sizeLine; rw [sizeLine_eq]; omega, fun l4 nl4 => ?_⟩⟩
      have s28 := same_upd (o := .lst [v5, .ref kept]) nl4
      have sA : Same H25 (upd H27 l4 (.lst [v5, .ref kept])) := (s26.trans s27).trans s28
      have eA := (s27.trans s28) _ _ (upd_same (H := H25) (a := l3) (o := .lst [v4, .ref kl2]))
      have eB := upd_same (H := H27) (a := l4) (o := .lst [v5, .ref kept])
      have hv5' := hv5.mono (TK.of_same s28)
      have tk28 : TK H22 (upd H27 l4 (.lst [v5, .ref kept])) := tk26.trans (TK.of_same (s27.trans s28))
      generalize upd H27 l4 (.lst [v5, .ref kept]) = H28 at s28 sA eA eB hv5' tk28
      refine ⟨.ref l3, .ref l4, rfl, ?_, fun H29 s29 => ⟨true, rfl, iteF ?_⟩⟩
      · refine (same_list (k := 22) eA eB (.cons ((SameDt.ty (hv4.mono (TK.of_same (s25.trans sA))) hv5').le (by omega)) (.cons ((same_list (k := 3) (sA _ _ j5) (sA _ _ (s25 _ _ (ExtN.lst e24 k5))) (same_items (L2.Paired.mapP j6 fun p kv q => sA _ _ q) (L2.Paired.mapP k6 fun p kv q => (s25.trans sA) _ _ (ExtN.tup e24 q)) fun kv hkv => ?_) ?_).le (by omega)) .nil)) (by show 2 ≤ 1000000; omega)).le (by omega)
        · obtain ⟨u, h1, h2⟩ := hu22 kv hkv
          exact (SameDt.ty (h1.mono tk28) (h1.mono tk28)).le h2
        · have := j6.length
          rw [List.length_map]
          omega
      have s4 : Same H24 H29 := (s25.trans sA).trans s29
      have g29 := g24.trans (.of_same s4)
      have T29 := T24.ext s4
      have hd29 := s4 _ _ hd24
      have hp29 : PurseAt H29 a _ := ((hp22.same s23).ext e24).same s4
      have eW29 := s4 _ _ (ExtN.lst e24 (s23 _ _ eW22))
      have ekept29 := s4 _ _ (ExtN.lst e24 k5)
      have kp29 : Paired (fun (t : Addr) (q : Key × V) => H29 t = some (.tup [kV q.1, q.2])) ts1 kvs := L2.Paired.mapP k6 fun p kv q => s4 _ _ (ExtN.tup e24 q)
      have tk29 : TK H22 H29 := tk28.trans (TK.of_same s29)
      have hv4' := hv4.mono (TK.of_same s4)
      clear s28 sA eA eB hv5' tk28 hv5 s4 j1 j2 j3 j4 j5 j6 tk26 s26
      -- clear
      refine ⟨_, rfl, .inr (.inr (.inl ⟨rfl, .inl ⟨_, hd29⟩⟩)), sent, kvs, rfl, rfl, hd29, ?_⟩
      have g30 : KN a H (upd H29 sent (.dK [])) := g17.upd nsent g29
      have T30 : Tabs (T3 PF PT PP) (upd H29 sent (.dK [])) := tabs_dK T29 hd29
      have hp30 := hp29.upd (o := .dK []) nas
      have eW30 : upd H29 sent (.dK []) W = some (.lst (ys3.map V.str)) := by rw [upd_ne nWs]; exact eW29
      have ekept : upd H29 sent (.dK []) kept = some (.lst (ts1.map V.ref)) := by
        rw [upd_ne fun z => by rw [z, hd29] at ekept29; cases ekept29]
        exact ekept29
      have kp30 : Paired (fun (t : Addr) (q : Key × V) => upd H29 sent (.dK []) t = some (.tup [kV q.1, q.2])) ts1 kvs := L2.Paired.mapP kp29 fun p kv q => TK.upd_dK hd29 _ _ q
      have tk30 : TK H22 (upd H29 sent (.dK [])) := tk29.trans (TK.upd_dK hd29)
      have hv4_30 := hv4'.mono (TK.upd_dK (o := .dK []) hd29)
      generalize upd H29 sent (.dK []) = H30 at g30 T30 hp30 eW30 ekept kp30 tk30 hv4_30
      -- plain, back
      have g30' := g30
      refine ⟨_, rfl, W, rfl, ⟨_, SqL.of eW30⟩, fun D2 nD2 => ?_⟩
      refine lc_list (K := K) (xs := ys3.map V.str) (fun i H' => Same H30 H' ∧ ∃ ps : List Addr, H' D2 = some (.lst (ps.map V.ref)) ∧ Paired (fun (p : Addr) (kv : Key × V) => p ≠ D2 ∧ H' p = some (.tup [kV kv.1, kv.2])) ps ((ys3.take i).map fun z => ((Sum.inr z : Key), V.str z)))
        ⟨same_upd nD2, [], upd_same, by rw [List.take_zero]; exact .nil⟩ (fun i H' _ q => SqL.of (q.1 _ _ eW30)) ?_ ?_
      · rintro i y H31 hy ⟨s31, ps2, eD2, hq2⟩
        rw [List.getElem?_map] at hy
        obtain ⟨z, hzi, rfl⟩ := Option.map_eq_some_iff.mp hy
        obtain ⟨hi, _⟩ := List.getElem?_eq_some_iff.mp hzi
        have lq := hq2.length
        rw [List.length_map, List.length_take] at lq
        refine ⟨rfl, _, rfl, _, rfl, by show 2 ≤ sizeLine; rw [sizeLine_eq]; omega, fun r nr => ?_⟩
        have nrD : r ≠ D2 := fun z => by rw [z, eD2] at nr; cases nr
        have s5 := same_upd (o := .tup [.str z, .str z]) nr
        refine ⟨_, s5 _ _ eD2, by rw [List.length_map, sizeLine_eq]; omega, same_over (s31.trans s5) nD2, ps2 ++ [r], by rw [upd_same, List.map_append]; rfl, ?_⟩
        rw [List.take_add_one, hzi, List.map_append]
        refine Paired.snoc (L2.Paired.mapP hq2 fun a ys q => ⟨q.1, ?_⟩) ⟨nrD, ?_⟩
        · rw [upd_ne q.1]
          exact s5 _ _ q.2
        · rw [upd_ne nrD, upd_same]
          rfl
      rintro H31 ⟨s31, ps2, eD2, hq2⟩
      rw [List.length_map, List.take_length] at hq2
      refine ⟨D2, ps2, _, rfl, SqL.of eD2, L2.Paired.mapP hq2 fun p kv q => SqT.of q.2, fun plain nplain => ?_⟩
      have ekp : (ys3.map fun z => ((Sum.inr z : Key), V.str z)).map (·.1) = ys3.map Sum.inr := by rw [List.map_map]; rfl
      rw [mergeK_nd _ [] (by rw [List.nil_append, ekp]; exact nodup_inr hys.nd), List.nil_append]
      have s32 : Same H30 (upd H31 plain (.dK (ys3.map fun z => ((Sum.inr z : Key), V.str z)))) := s31.trans (same_upd nplain)
      have hd32 := upd_same (H := H31) (a := plain) (o := .dK (ys3.map fun z => ((Sum.inr z : Key), V.str z)))
      generalize upd H31 plain (.dK (ys3.map fun z => ((Sum.inr z : Key), V.str z))) = H32 at s32 hd32
      have ekept32 := s32 _ _ ekept
      have kp32 : Paired (fun (t : Addr) (q : Key × V) => H32 t = some (.tup [kV q.1, q.2])) ts1 kvs := L2.Paired.mapP kp30 fun p kv q => s32 _ _ q
      have tk32 : TK H22 H32 := tk30.trans (TK.of_same s32)
      refine ⟨_, rfl, kept, rfl, ⟨_, SqL.of ekept32⟩, fun D3 nD3 => ?_⟩
      refine lc_list (K := K) (xs := ts1.map V.ref) (fun i H' => Same H32 H' ∧ ∃ (ps : List Addr) (kw : List (Key × V)), H' D3 = some (.lst (ps.map V.ref)) ∧ kw.map (·.1) = (kvs.take i).map (·.1) ∧ Paired (fun (p : Addr) (kv : Key × V) => p ≠ D3 ∧ H' p = some (.tup [kV kv.1, kv.2])) ps kw ∧
          ∀ kv ∈ kw, ∃ z : Str, kv.1 = Sum.inr z ∧ TyAt H' kv.2 (m z).turned)
        ⟨same_upd nD3, [], [], upd_same, by simp, .nil, fun kv h => by cases h⟩ (fun i H' _ q => SqL.of (q.1 _ _ ekept32)) ?_ ?_
      · rintro i y H33 hy ⟨s33, ps3, kw, eD3, ekw, hq3, hu3⟩
        rw [List.getElem?_map] at hy
        obtain ⟨tt, htt, rfl⟩ := Option.map_eq_some_iff.mp hy
        obtain ⟨kv, hkv, ett⟩ := paired_get kp32 htt
        have ett33 := s33 _ _ ett
        have mkv : kv ∈ kvs := List.mem_of_getElem? hkv
        obtain ⟨z, hz4, ez⟩ : ∃ z ∈ ys4, Sum.inr z = kv.1 := List.mem_map.mp (by rw [← ek]; exact List.mem_map.mpr ⟨kv, mkv, rfl⟩)
        obtain ⟨kk, vv⟩ := kv
        obtain rfl : Sum.inr z = kk := ez
        obtain ⟨x', h1, h2, h3⟩ := hm z ((m4 z).mp hz4)
        rw [valV_nd ndk mkv] at h1
        obtain rfl := Option.some.inj h1
        have lq := hq3.length
        have lkw := congrArg List.length ekw
        rw [List.length_map, List.length_map, List.length_take] at lkw
        refine ⟨tt, _, rfl, SqT.of ett33, rfl, _, _, rfl, _, _, rfl, rfl, rfl, ?_⟩
        refine ⟨_, rfl, _, rfl, vv, m z, rfl, h2.mono (tk32.trans (TK.of_same s33)), by omega, fun vt H34 s34 hvt => ⟨by show 2 ≤ sizeLine; rw [sizeLine_eq]; omega, fun r nr => ?_⟩⟩
        have eD34 := s34 _ _ eD3
        have nrD : r ≠ D3 := fun z => by rw [z, eD34] at nr; cases nr
        have s5 := same_upd (o := .tup [.str z, vt]) nr
        have tkr : TK H34 (upd (upd H34 r (.tup [.str z, vt])) D3 (.lst (ps3.map V.ref ++ [.ref r]))) := (TK.of_same s5).trans (TK.upd_lst (s5 _ _ eD34))
        refine ⟨_, s5 _ _ eD34, by rw [List.length_map, sizeLine_eq]; omega, same_over ((s33.trans s34).trans s5) nD3, ps3 ++ [r], kw ++ [(Sum.inr z, vt)], by rw [upd_same, List.map_append]; rfl, by rw [List.map_append, ekw, List.take_add_one, hkv, List.map_append]; rfl, ?_, ?_⟩
        · refine Paired.snoc (L2.Paired.mapP hq3 fun a ys q => ⟨q.1, ?_⟩) ⟨nrD, ?_⟩
          · rw [upd_ne q.1]
            exact s5 _ _ (s34 _ _ q.2)
          · rw [upd_ne nrD, upd_same]
        · intro kv hkv
          rcases List.mem_append.mp hkv with h | h
          · obtain ⟨z', h5, h6⟩ := hu3 kv h
            exact ⟨z', h5, h6.mono ((TK.of_same s34).trans tkr)⟩
          · rw [List.mem_singleton.mp h]
            exact ⟨z, rfl, hvt.mono tkr⟩
      rintro H33 ⟨s33, ps3, kw, eD3, ekw, hq3, hu3⟩
      have lts := kp32.length
      rw [List.length_map, lts, List.take_length] at ekw
      refine ⟨D3, ps3, kw, rfl, SqL.of eD3, L2.Paired.mapP hq3 fun p kv q => SqT.of q.2, fun back nback => ?_⟩
      rw [mergeK_nd kw [] (by rw [List.nil_append, ekw]; exact ndk), List.nil_append]
      have s34 : Same H32 (upd H33 back (.dK kw)) := s33.trans (same_upd nback)
      have hd34 := upd_same (H := H33) (a := back) (o := .dK kw)
      have hu34 : ∀ kv ∈ kw, ∃ z : Str, kv.1 = Sum.inr z ∧ TyAt (upd H33 back (.dK kw)) kv.2 (m z).turned := fun kv h => by
        obtain ⟨z, h1, h2⟩ := hu3 kv h
        exact ⟨z, h1, h2.mono (TK.upd_new nback)⟩
      generalize upd H33 back (.dK kw) = H34 at s34 hd34 hu34
      have g34 := g30.trans (.of_same (s32.trans s34))
      have hb : ∀ {H' : Hp}, Same H34 H' → ∀ z ∈ t.turned.words, ∃ x', valV kw (Sum.inr z) = some x' ∧ TyAt H' x' (m z).turned := fun s z hz' => by
        have hz2 := (t.words_turned z).mp hz'
        obtain ⟨x', h1, h2⟩ := valV_mem (kvs := kw) (k := Sum.inr z) (by rw [ekw, ek]; exact List.mem_map.mpr ⟨z, (m4 z).mpr hz2, rfl⟩)
        obtain ⟨z', h3, h4⟩ := hu34 _ h2
        obtain rfl : z = z' := Sum.inr.inj h3
        exact ⟨x', h1, h4.mono (TK.of_same s)⟩
      refine ⟨_, _, rfl, ?_⟩
      -- due
      refine ⟨_, rfl, _, rfl, kept, ts1, kvs, rfl, SqL.of (s34 _ _ ekept32), L2.Paired.mapP kp32 fun p kv q => SqT.of (s34 _ _ q), fun dk ndk2 => ?_⟩
      rw [mergeK_nd kvs [] ndk, List.nil_append]
      have s35 := same_upd (o := .dK kvs) ndk2
      have tk34 : TK H22 H34 := tk32.trans (TK.of_same s34)
      refine ⟨x, t, dk, kvs, m, rfl, hx.mono ((g34.trans (.of_same s35)).tk hp), by omega, upd_same, hmk (tk34.trans (TK.of_same s35)), fun v6 H36 s36 hv6 => ⟨_, rfl, _, rfl, x, t, rfl, hx.mono ((g34.trans (.of_same (s35.trans s36))).tk hp), by omega, fun v7 H37 s37 hv7 => ⟨_, rfl, v7, t.turned, back, kw, fun z => (m z).turned, rfl, hv7, by omega, ((s35.trans s36).trans s37) _ _ hd34, hb ((s35.trans s36).trans s37), fun v8 H38 s38 hv8 => ⟨by show 3 ≤ sizeLine; rw [sizeLine_eq]; omega, fun due2 nd2 => ?_⟩⟩⟩⟩
      have s39 := same_upd (o := .lst [v6, x, v8]) nd2
      have sB : Same H34 (upd H38 due2 (.lst [v6, x, v8])) := (((s35.trans s36).trans s37).trans s38).trans s39
      have ed39 := upd_same (H := H38) (a := due2) (o := .lst [v6, x, v8])
      have hv6' := hv6.mono (TK.of_same ((s37.trans s38).trans s39))
      have hv8' := hv8.mono (TK.of_same s39)
      generalize upd H38 due2 (.lst [v6, x, v8]) = H39 at s39 sB ed39 hv6' hv8'
      have g39 := g34.trans (.of_same sB)
      have s30_39 : Same H30 H39 := (s32.trans s34).trans sB
      have T39 := T30.ext s30_39
      have hd39 := sB _ _ (s34 _ _ hd32)
      -- the last comparison
      refine ⟨_, rfl, _, rfl, _, rfl, x, t, plain, _, ys3, Ty.w, rfl, hx.mono (g39.tk hp), by omega, T39, hd39, by rw [List.length_map], hys.nd, fun z => (hys.mem z).trans (by simp), fun z hz' => ?_, fun v9 H40 e40 T40 hv9 => ?_⟩
      · obtain ⟨x', h1, h2⟩ := valV_mem (kvs := ys3.map fun z => ((Sum.inr z : Key), V.str z)) (k := Sum.inr z) (by rw [ekp]; exact List.mem_map.mpr ⟨z, (hys.mem z).mpr ⟨t, List.mem_singleton.mpr rfl, hz'⟩, rfl⟩)
        obtain ⟨z', _, e⟩ := List.mem_map.mp h2
        obtain rfl : z' = z := Sum.inr.inj (Prod.mk.inj e).1
        have e2 : V.str z' = x' := (Prod.mk.inj e).2
        rw [← e2] at h1
        exact ⟨_, h1, .w (hz.w _ (hw _ hz')), by show 1 ≤ 1000000; omega⟩
      have g40 := g39.trans (.of_ext e40)
      refine ⟨_, rfl, _, rfl, kept, ts1, kvs, rfl, SqL.of (ExtN.lst e40 (sB _ _ (s34 _ _ ekept32))), L2.Paired.mapP kp32 fun p kv q => SqT.of (ExtN.tup e40 (sB _ _ (s34 _ _ q))), fun dk3 ndk3 => ?_⟩
      rw [mergeK_nd kvs [] ndk, List.nil_append]
      have s41 := same_upd (o := .dK kvs) ndk3
      have tk41 : TK H22 (upd H40 dk3 (.dK kvs)) := tk34.trans ((TK.of_same sB).trans ((ExtN.tk e40).trans (TK.of_same s41)))
      refine ⟨x, t, dk3, kvs, ys4, m, rfl, hx.mono ((g40.trans (.of_same s41)).tk hp), by omega, T40.ext s41, upd_same, lk, nd4, m4, fun z hz' => ?_, fun v10 H42 e42 T42 hv10 => ?_⟩
      · obtain ⟨x', h1, h2, h3⟩ := hm z hz'
        exact ⟨x', h1, h2.mono tk41, by have := (m z).size_signs; omega⟩
      have szp : (t.put m).size ≤ 100 := by have := (t.put m).size_signs; omega
      refine ⟨v10, t.put m, rfl, hv10, by omega, T42, fun v11 H43 e43 T43 hv11 => ⟨by show 3 ≤ sizeLine; rw [sizeLine_eq]; omega, fun l5 nl5 => ⟨_, rfl, .ref l5, .ref due2, rfl, ?_, fun Hf sf => ?_⟩⟩⟩
      · have s44 := same_upd (o := .lst [v4, v9, v11]) nl5
        have tkE : TK H39 (upd H43 l5 (.lst [v4, v9, v11])) := (ExtN.tk e40).trans ((TK.of_same s41).trans ((ExtN.tk e42).trans ((ExtN.tk e43).trans (TK.of_same s44))))
        have eE : upd H43 l5 (.lst [v4, v9, v11]) due2 = some (.lst [v6, x, v8]) := s44 _ _ (ExtN.lst e43 (ExtN.lst e42 (s41 _ _ (ExtN.lst e40 ed39))))
        have hv9' : TyAt H40 v9 t := by rw [t.put_id] at hv9; exact hv9
        have hv11' : TyAt H43 v11 (t.turned.put fun z => (m z).turned) := by rw [t.put_turned] at hv11; exact hv11
        have gE : KN a H (upd H43 l5 (.lst [v4, v9, v11])) := ((((g40.trans (.of_same s41)).trans (.of_ext e42)).trans (.of_ext e43)).trans (.of_same s44))
        have sgp : (t.turned.put fun z => (m z).turned).signs ≤ 22 := by
          rw [← t.put_turned, Ty.signs_turned]
          omega
        exact (same_list (k := 22) upd_same eE (.cons ((SameDt.ty (hv4_30.mono ((TK.of_same s30_39).trans tkE)) (hv6'.mono tkE)).le (by omega)) (.cons ((SameDt.ty (hv9'.mono ((TK.of_same s41).trans ((ExtN.tk e42).trans ((ExtN.tk e43).trans (TK.of_same s44))))) (hx.mono (gE.tk hp))).le (by omega)) (.cons ((SameDt.ty (hv11'.mono (TK.of_same s44)) (hv8'.mono tkE)).le sgp) .nil))) (by show 3 ≤ 1000000; omega)).le (by omega)
      · have s44 := (same_upd (o := .lst [v4, v9, v11]) nl5).trans sf
        refine k Hf ((((g40.trans (.of_same s41)).trans (.of_ext e42)).trans (.of_ext e43)).trans (.of_same s44)) (T43.ext s44) ?_
        exact ((((((hp30.same s30_39).ext e40).same s41).ext e42).ext e43).same s44).mono (by rw [List.length_map]; omega)
end
end K3

namespace K3
open PySem PySem.Spec PyProof.Rows L2 NdefX LamX KT
open PySem.W (Frag)
theorem prod_len {α β γ : Type} (f : α → β → γ) (ys : List β) : ∀ xs : List α, (xs.flatMap fun x => ys.map (f x)).length = xs.length * ys.length
  | [] => by simp
  | x :: xs => by rw [List.flatMap_cons, List.length_append, List.length_map, prod_len f ys xs, List.length_cons, Nat.succ_mul]; omega
theorem allK_0 (zs : List Str) : (allK zs 0).length = zs.length := by
  show (zs.map Ty.w).length = _
  rw [List.length_map]
theorem allK_1 (zs : List Str) : (allK zs 1).length = 3 * (zs.length * zs.length) := by
  rw [allK_succ]
  simp only [List.flatMap_cons, List.flatMap_nil, List.range_succ, List.range_zero, List.nil_append, List.append_nil, List.length_append, prod_len, allK_0, Nat.sub_self]
  omega
theorem allK_2 (zs : List Str) : (allK zs 2).length = 3 * (zs.length * (3 * (zs.length * zs.length)) + 3 * (zs.length * zs.length) * zs.length) := by
  rw [allK_succ]
  have e : List.range (1 + 1) = [0, 1] := rfl
  simp only [e, List.flatMap_cons, List.flatMap_nil, List.append_nil, List.length_append, prod_len, allK_0, allK_1, Nat.sub_self, Nat.sub_zero]
  omega
theorem allK_len {zs : List Str} (h1 : 1 ≤ zs.length) (h2 : zs.length ≤ 2) : ∀ m, m ≤ 2 → ((allK zs m).length : Int) = (cnts (zs.length : Nat) m).getD m 0 ∧ (allK zs m).length ≤ 200 := by
  intro m hm
  have e : zs.length = 1 ∨ zs.length = 2 := by omega
  match m, hm with
  | 0, _ => rw [allK_0]; rcases e with e | e <;> rw [e] <;> decide
  | 1, _ => rw [allK_1]; rcases e with e | e <;> rw [e] <;> decide
  | 2, _ => rw [allK_2]; rcases e with e | e <;> rw [e] <;> decide
theorem same_tys {H : Hp} {k : Nat} : ∀ {us vs : List V} {ts : List Ty}, Tys H us ts → Tys H vs ts → (∀ t ∈ ts, t.signs ≤ k) → Paired (SameDt H k) us vs
  | _, _, _, .nil, .nil, _ => .nil
  | _, _, _, .cons h1 r1, .cons h2 r2, h => .cons ((SameDt.ty h1 h2).le (h _ List.mem_cons_self)) (same_tys r1 r2 fun t ht => h t (List.mem_cons_of_mem _ ht))
theorem allK_signs (zs : List Str) : ∀ (m : Nat) (t : Ty), t ∈ allK zs m → t.signs = m := by
  intro m
  induction m using Nat.strongRecOn with
  | _ m ih =>
    intro t ht
    cases m with
    | zero =>
      obtain ⟨z, _, rfl⟩ := List.mem_map.mp (show t ∈ zs.map Ty.w from ht)
      rfl
    | succ n =>
      rw [allK_succ] at ht
      obtain ⟨g, _, ht⟩ := List.mem_flatMap.mp ht
      obtain ⟨a, ha, ht⟩ := List.mem_flatMap.mp ht
      obtain ⟨x, hx, ht⟩ := List.mem_flatMap.mp ht
      obtain ⟨y, hy, rfl⟩ := List.mem_map.mp ht
      have ha := List.mem_range.mp ha
      simp only [Ty.signs, ih a (by omega) x hx, ih (n - a) (by omega) y hy]
      omega
end K3

namespace K3
open PySem PySem.Spec PyProof.Rows L2 NdefX LamX KT
open PySem.W (Frag)
section
variable {P : Program} {w : World} {K : Frag} {mg : Str → Option Value} {base : Heap}
def spListsRight : Sp := fun vs H Q _ => ∃ (a : Addr) (n : Nat), vs = [.ref a] ∧ PurseAt H a n ∧ n ≤ 400000000000 ∧ ∀ H', KeepBut a H H' → PurseAt H' a (n + 100) → Q (.bl true) H'
theorem ok_listsRight {f fPl fD fIn fA fM fE fC : Addr} {fd dPl dD dIn dA dM dE dC : FuncData} (T : Top K mg "_law_lists_right" sLListsRight pLListsRight f fd) (B : Blt mg)
    (TPl : Top K mg "_law_plains" sLPlains pLPlains fPl dPl) (TD : Top K mg "_law_draw" sLDraw ["purse", "many"] fD dD) (TIn : Top K mg "_law_in_order" sLInOrder pLInOrder fIn dIn) (TA : Top K mg "all_kinds" sAllKinds pAllKinds fA dA)
    (TM : Top K mg "many_kinds" sManyKinds pManyKinds fM dM) (TE : Top K mg "_law_exact" sLExact pLExact fE dE) (TC : Top K mg "_law_count_to" sLCountTo pLCountTo fC dC)
    (GPl : FnOk P w K mg base L2.CX0 5 fPl dPl pLPlains spPlains) (GD : FnOk P w K mg base L2.CX0 2 fD dD ["purse", "many"] spDraw) (GIn : FnOk P w K mg base L2.CX0 3 fIn dIn pLInOrder (spInOrder 2)) (GA : FnOk P w K mg base L2.CX0 3 fA dA pAllKinds spAllKinds)
    (GM : FnOk P w K mg base L2.CX0 3 fM dM pManyKinds spManyKinds) (GE : FnOk P w K mg base L2.CX0 41 fE dE pLExact (spExact 40)) (GC : FnOk P w K mg base L2.CX0 1 fC dC pLCountTo spCountTo) : FnOk P w K mg base L2.CX0 42 f fd pLListsRight spListsRight := by
  have KA := KT.kbinds_mk (ps := ["plains", "number"]) (ks := ["number", "plains"]) TA.F (by decide) (fun {α} ws => sw ws) (fun _ _ _ _ _ _ ws hl => match ws, hl with | [_, _], _ => rfl) sw_vals
  have KM := KT.kbinds_mk (ps := ["plains", "number"]) (ks := ["number", "plains"]) TM.F (by decide) (fun {α} ws => sw ws) (fun _ _ _ _ _ _ ws hl => match ws, hl with | [_, _], _ => rfl) sw_vals
  refine T.F.ok scLListsRight (fun vs H Q E h => ?_) (fun cdv A outer s H vs Q E hr h => ?_)
  · obtain ⟨_, _, rfl, _⟩ := h
    rfl
  · obtain ⟨a, n, rfl, hp, hn, k⟩ := h
    have hr1 : Room 1 _ := hr.mono (by decide)
    have hr2 : Room 2 _ := hr.mono (by decide)
    have hr3 : Room 3 _ := hr.mono (by decide)
    have hr5 : Room 5 _ := hr.mono (by decide)
    refine ⟨_, (pss_cons (ps_par (i := 1) (j := 2) rfl scLListsRight.nd rfl rfl (by decide) rfl rfl (pa_cons (pe_call GPl hr5 rfl TPl.g TPl.F.kp TPl.b .nil pass0 (pa_cons (pv 0) (pa_cons pe_int pa_nil))) (pa_cons (pe_call GD hr2 rfl TD.g TD.F.kp TD.b .nil pass0 (pa_cons (pv 0) (pa_cons pe_int pa_nil))) pa_nil)) (by rfl))
      (pss_cons (ps_set (i := 3) scLListsRight.nd rfl (Or.inl rfl) (pe_call GIn hr3 rfl TIn.g TIn.F.kp TIn.b .nil pass0 (pa_cons (pv 1) (pa_cons (pv 2) pa_nil))))
      (pss_cons (ps_set (i := 4) scLListsRight.nd rfl (Or.inl rfl) (KT.pe_callK0 GA hr3 rfl TA.g TA.F.kp KA pass0 (pk_cons (pv 2) (pk_cons (pv 1) pk_nil))))
      (pss_cons (ps_if (pt_not (pt_val (pe_call GE hr rfl TE.g TE.F.kp TE.b .nil pass0 (pa_cons (pe_lst (pa_cons (pv 4) (pa_cons (pe_call GM hr3 rfl TM.g TM.F.kp TM.b .nil pass0 (pa_cons (pv 1) (pa_cons (pv 2) pa_nil))) pa_nil))) (pa_cons (pe_lst (pa_cons (pv 3) (pa_cons (pe_callB call_len_seq (by rfl) B.len PySem.boot_len (pa_cons (pv 3) pa_nil)) pa_nil))) pa_nil))))) pss_never pss_nil)
      (pss_cons (ps_expr (pe_bm PySem.F.plainAttrs_list PySem.F.slot_list_append PySem.F.type_list_append mt_append (pv 4) (pa_cons pe_str pa_nil)))
      (pss_cons (ps_set (i := 5) scLListsRight.nd rfl (Or.inl rfl) (pe_op op_add pe_int (pe_call GD hr2 rfl TD.g TD.F.kp TD.b .nil pass0 (pa_cons (pv 0) (pa_cons pe_int pa_nil)))))
      (pss_one (ps_ret (pe_call GE hr rfl TE.g TE.F.kp TE.b .nil pass0 (pa_cons (pe_lst (pa_cons (pe_callB call_len_seq (by rfl) B.len PySem.boot_len (pa_cons (pe_call GA hr3 rfl TA.g TA.F.kp TA.b .nil pass0 (pa_cons (pv 1) (pa_cons (pv 2) pa_nil))) pa_nil)) (pa_cons (KT.pe_callK0 GM hr3 rfl TM.g TM.F.kp KM pass0 (pk_cons (pv 5) (pk_cons (pv 1) pk_nil))) pa_nil))) (pa_cons (pe_lst (pa_cons (pe_callB call_len_seq (by rfl) B.len PySem.boot_len (pa_cons (pv 3) pa_nil)) (pa_cons (pe_call GC hr1 rfl TC.g TC.F.kp TC.b .nil pass0 (pa_cons (pe_callB call_len_seq (by rfl) B.len PySem.boot_len (pa_cons (pv 1) pa_nil)) (pa_cons (pv 5) pa_nil))) pa_nil))) pa_nil))))))))))), ?_⟩
    refine ⟨_, rfl, a, n, 2, rfl, hp, by omega, by omega, by omega, fun L zs H1 hz hl2 kb1 nL eL hp1 => ⟨_, rfl, a, _, 3, rfl, hp1, by omega, by omega, by omega, fun d H2 c0 c1 off2 hp2 => ⟨_, _, rfl, ?_⟩⟩⟩
    obtain ⟨m, rfl⟩ : ∃ m : Nat, d = (m : Int) := ⟨d.toNat, by omega⟩
    have hm : m ≤ 2 := by omega
    have hzl : zs.length ≤ 2 := by omega
    have nLa := (hp.ne nL).symm
    have kb2 : KeepBut a H H2 := kb1.trans (.of_off off2)
    have eL2 : H2 L = some (.lst (zs.map V.str)) := by rw [off2 L nLa]; exact eL
    have hb : ∀ j, j ≤ m → (allK zs j).length ≤ 100000 := fun j hj => by have := (allK_len hz.l1 hzl j (by omega)).2; omega
    obtain ⟨hcm, hlm⟩ := allK_len hz.l1 hzl m hm
    refine ⟨_, rfl, _, rfl, L, m, zs, rfl, hm, eL2, hz.w, by omega, hb, fun D us H3 s3 nD eD hT => ?_⟩
    refine ⟨_, rfl, _, rfl, L, zs, m, rfl, s3 _ _ eL2, hz, by omega, hb, fun R us2 H4 s4 nR eR hT2 => ?_⟩
    refine ⟨_, rfl, _, rfl, _, rfl, L, zs, m, rfl, s4 _ _ (s3 _ _ eL2), hz, by omega, fun H5 s5 => ⟨by show 2 ≤ sizeLine; rw [sizeLine_eq]; omega, fun l1 nl1 => ?_⟩⟩
    have s6 := same_upd (o := .lst [.ref R, .int ((cnts (zs.length : Nat) m).getD m 0)]) nl1
    have s46 := s5.trans s6
    refine ⟨_, rfl, _, rfl, D, us, rfl, .inl (SqL.of (s46 _ _ (s4 _ _ eD))), by show 2 ≤ sizeLine; rw [sizeLine_eq]; omega, fun l2 nl2 => ?_⟩
    have s7 := same_upd (o := .lst [.ref D, .int (us.length : Int)]) nl2
    have lus : (us.length : Int) = (cnts (zs.length : Nat) m).getD m 0 := by rw [hT.length]; exact hcm
    have s47 := s46.trans s7
    have lus2 := hT2.length
    have lus1 := hT.length
    refine ⟨.ref l1, .ref l2, rfl, ?_, fun H8 s8 => ⟨true, rfl, iteF ?_⟩⟩
    · refine (same_list (k := 3) (s7 _ _ (upd_same (o := .lst [.ref R, .int ((cnts (zs.length : Nat) m).getD m 0)]))) upd_same (.cons ((same_list (k := 2) (s47 _ _ eR) (s47 _ _ (s4 _ _ eD)) (same_tys (hT2.mono (TK.of_same s47)) (hT.mono (TK.of_same (s4.trans s47))) fun t ht => by have := allK_signs zs m t ht; omega) (by omega)).le (by omega)) (.cons (by rw [lus]; exact .scl (.i _)) .nil)) (by show 2 ≤ 1000000; omega)).le (by omega)
    have s48 := s47.trans s8
    have nR2 : H2 R = none := s3.free nR
    have nLR : L ≠ R := ne_of_none eL2 nR2
    have nDR : D ≠ R := ne_of_none eD nR
    have naR := hp2.ne nR2
    refine ⟨_, rfl, .inl ⟨rfl, _, SqL.of (s48 _ _ eR)⟩, R, _, _, rfl, rfl, s48 _ _ eR, by rw [lus2, sizeLine_eq]; omega, ?_⟩
    have kb9 : KeepBut a H (upd H8 R (.lst (us2 ++ [.str "more"]))) := fun b o e nb => by
      have q := kb2 b o e nb
      rw [upd_ne (ne_of_none q nR2)]
      exact ((s3.trans s4).trans s48) _ _ q
    have hp9 : PurseAt (upd H8 R (.lst (us2 ++ [.str "more"]))) a _ := ((hp2.same ((s3.trans s4).trans s48))).upd naR
    have eL9 : upd H8 R (.lst (us2 ++ [.str "more"])) L = some (.lst (zs.map V.str)) := by rw [upd_ne nLR]; exact ((s3.trans s4).trans s48) _ _ eL2
    have eD9 : upd H8 R (.lst (us2 ++ [.str "more"])) D = some (.lst us) := by rw [upd_ne nDR]; exact (s4.trans s48) _ _ eD
    generalize upd H8 R (.lst (us2 ++ [.str "more"])) = H9 at kb9 hp9 eL9 eD9
    have nDa := (hp2.ne nD).symm
    refine ⟨_, rfl, a, _, 18, rfl, hp9, by omega, by omega, by omega, fun d2 H10 c2 c3 off10 hp10 => ⟨_, _, rfl, rfl, ?_⟩⟩
    obtain ⟨M, hM⟩ : ∃ M : Nat, (3 : Int) + d2 = (M : Int) := ⟨(3 + d2).toNat, by omega⟩
    dsimp only
    rw [hM]
    have eL10 : H10 L = some (.lst (zs.map V.str)) := by rw [off10 L nLa]; exact eL9
    have eD10 : H10 D = some (.lst us) := by rw [off10 D nDa]; exact eD9
    have kb10 : KeepBut a H H10 := kb9.trans (.of_off off10)
    refine ⟨_, rfl, _, rfl, L, zs, m, rfl, eL10, hz, by omega, hb, fun R4 us4 H11 s11 nR4 eR4 hT4 => ⟨R4, us4, rfl, .inl (SqL.of eR4), _, rfl, _, rfl, L, zs, M, rfl, s11 _ _ eL10, hz, by omega, fun H12 s12 => ⟨by show 2 ≤ sizeLine; rw [sizeLine_eq]; omega, fun l3 nl3 => ?_⟩⟩⟩
    have s13 := same_upd (o := .lst [.int (us4.length : Int), .int ((cnts (zs.length : Nat) M).getD M 0)]) nl3
    have s1013 := (s11.trans s12).trans s13
    have lzs : ((zs.map V.str).length : Int) = (zs.length : Nat) := by rw [List.length_map]
    refine ⟨_, rfl, D, us, rfl, .inl (SqL.of (s1013 _ _ eD10)), _, rfl, L, _, rfl, .inl (SqL.of (s1013 _ _ eL10)), _, rfl, zs.length, M, by rw [lzs]; rfl, by omega, by omega, fun H14 s14 => ⟨by show 2 ≤ sizeLine; rw [sizeLine_eq]; omega, fun l4 nl4 => ⟨.ref l3, .ref l4, rfl, ?_, fun H16 s16 => ?_⟩⟩⟩
    · have s15 := same_upd (o := .lst [.int (us.length : Int), .int ((cnts (zs.length : Nat) M).getD M 0)]) nl4
      have lus4 : us4.length = us.length := by rw [hT4.length, lus1]
      exact (same_list (k := 0) ((s14.trans s15) _ _ (upd_same (o := .lst [.int (us4.length : Int), .int ((cnts (zs.length : Nat) M).getD M 0)]))) upd_same (.cons (by rw [lus4]; exact .scl (.i _)) (.cons (.scl (.i _)) .nil)) (by show 2 ≤ 1000000; omega)).le (by omega)
    · have sE := ((s1013.trans s14).trans (same_upd (o := .lst [.int (us.length : Int), .int ((cnts (zs.length : Nat) M).getD M 0)]) nl4)).trans s16
      exact k H16 (kb10.trans (.of_same sE)) ((hp10.same sE).mono (by omega))
end
end K3

namespace K3
open PySem PySem.Spec PyProof.Rows L2 NdefX LamX KT
open PySem.W (Frag)
theorem ite_same {c : Prop} [Decidable c] {X : Prop} (h : X) : if c then X else X := by split <;> exact h
section
variable {P : Program} {w : World} {K : Frag} {mg : Str → Option Value} {base : Heap} {PF PT PP : Addr}
def spLaw (K : Frag) (PF PT PP : Addr) : Sp := fun vs H Q _ => ∃ (a : Addr) (ns : List Int), vs = [.ref a] ∧ SqL K H a (ns.map V.int) ∧ Tabs (T3 PF PT PP) H ∧ ∀ H', Q (.bl true) H'
theorem ok_law {f fPs fPl fD fK fFK fKR fE fS fLR : Addr} {fd dPs dPl dD dK dFK dKR dE dS dLR : FuncData} (T : Top K mg "law" sLaw pLaw f fd) (B : Blt mg)
    (TPs : Top K mg "_law_purses" sLPurses ["script", "few"] fPs dPs) (TPl : Top K mg "_law_plains" sLPlains pLPlains fPl dPl) (TD : Top K mg "_law_draw" sLDraw ["purse", "many"] fD dD) (TKd : Top K mg "_law_kind" sLKind pLKind fK dK)
    (TFK : Top K mg "_law_free_kind" sLFreeKind pLFreeKind fFK dFK) (TKR : Top K mg "_law_kind_right" sLKindRight pLKindRight fKR dKR) (TE : Top K mg "_law_exact" sLExact pLExact fE dE) (TS : Top K mg "signs_of" sSignsOf pSignsOf fS dS)
    (TLR : Top K mg "_law_lists_right" sLListsRight pLListsRight fLR dLR)
    (GPs : FnOk P w K mg base L2.CX0 2 fPs dPs ["script", "few"] (spPurses K)) (GPl : FnOk P w K mg base L2.CX0 5 fPl dPl pLPlains spPlains) (GD : FnOk P w K mg base L2.CX0 2 fD dD ["purse", "many"] spDraw) (GK : FnOk P w K mg base L2.CX0 10 fK dK pLKind (spKind 6))
    (GFK : FnOk P w K mg base L2.CX0 10 fFK dFK pLFreeKind (spKind 6)) (GKR : FnOk P w K mg base L2.CX0 42 fKR dKR pLKindRight (spKindRight PF PT PP)) (GE : FnOk P w K mg base L2.CX0 41 fE dE pLExact (spExact 40)) (GS : FnOk P w K mg base L2.CX0 4 fS dS pSignsOf spSignsOf)
    (GLR : FnOk P w K mg base L2.CX0 42 fLR dLR pLListsRight spListsRight) : FnOk P w K mg base L2.CX0 43 f fd pLaw (spLaw K PF PT PP) := by
  refine T.F.ok scLaw (fun vs H Q E h => ?_) (fun cdv A outer s H vs Q E hr h => ?_)
  · obtain ⟨_, _, rfl, _⟩ := h
    rfl
  · obtain ⟨a, ns, rfl, hq, hT, k⟩ := h
    have hr2 : Room 2 _ := hr.mono (by decide)
    have hr4 : Room 4 _ := hr.mono (by decide)
    have hr5 : Room 5 _ := hr.mono (by decide)
    have hr10 : Room 10 _ := hr.mono (by decide)
    have hr41 : Room 41 _ := hr.mono (by decide)
    refine ⟨_, (pss_cons (ps_for PassesOwn.never rfl (pi_list (pe_call GPs hr2 rfl TPs.g TPs.F.kp TPs.b .nil pass0 (pa_cons (pv 0) (pa_cons pe_int pa_nil)))) (pg_name (i := 1) scLaw.nd rfl (Or.inl rfl))
        (pss_cons (ps_set (i := 2) scLaw.nd rfl (Or.inl rfl) (pe_call GPl hr5 rfl TPl.g TPl.F.kp TPl.b .nil pass0 (pa_cons (pv 1) (pa_cons pe_int pa_nil))))
      (pss_cons (ps_for PassesOwn.never rfl (pi_range1 (by rfl) B.range (pa_cons pe_int pa_nil)) (pg_name (i := 3) scLaw.nd rfl (Or.inl rfl))
            (pss_cons (ps_set (i := 4) scLaw.nd rfl (Or.inl rfl) (pe_call GD hr2 rfl TD.g TD.F.kp TD.b .nil pass0 (pa_cons (pv 1) (pa_cons pe_int pa_nil))))
      (pss_cons (ps_set (i := 5) scLaw.nd rfl (Or.inl rfl) (pe_ifExp (pt_cmpR op_lt (pv 3) pe_int (nomark _)) (pe_call GK hr10 rfl TKd.g TKd.F.kp TKd.b .nil pass0 (pa_cons (pv 1) (pa_cons (pv 2) (pa_cons (pv 4) pa_nil)))) (pe_call GFK hr10 rfl TFK.g TFK.F.kp TFK.b .nil pass0 (pa_cons (pv 1) (pa_cons (pv 2) (pa_cons (pv 4) pa_nil))))))
      (pss_one (ps_if (PW.pt (pw_or (pt_not (pt_val (pe_call GKR hr rfl TKR.g TKR.F.kp TKR.b .nil pass0 (pa_cons (pv 1) (pa_cons (pv 2) (pa_cons (pv 5) pa_nil)))))) (pw_or1 (pt_not (pt_val (pe_call GE hr41 rfl TE.g TE.F.kp TE.b .nil pass0 (pa_cons (pe_call GS hr4 rfl TS.g TS.F.kp TS.b .nil pass0 (pa_cons (pv 5) pa_nil)) (pa_cons (pv 4) pa_nil)))))))) pss_never pss_nil)))))
      (pss_one (ps_if (pt_not (pt_val (pe_call GLR hr rfl TLR.g TLR.F.kp TLR.b .nil pass0 (pa_cons (pv 1) pa_nil)))) pss_never pss_nil)))))
      (pss_one (ps_ret pe_bl))), ?_⟩
    refine ⟨_, rfl, a, ns, rfl, hq, fun L0 p H1 s1 nL0 np nLp eL0 hp1 => ⟨L0, rfl, ⟨_, SqL.of eL0⟩, ?_⟩⟩
    refine for_list (K := K) (xs := [.ref p]) (fun i σ H' => ∃ (v1 v2 v3 v4 v5 : Option V), σ = [some (.ref a), v1, v2, v3, v4, v5] ∧ H' L0 = some (.lst [.ref p]) ∧ PurseAt H' p (2000 * i) ∧ Tabs (T3 PF PT PP) H')
      ⟨none, none, none, none, none, rfl, eL0, hp1, hT.ext s1⟩ (fun i σ H' _ ⟨_, _, _, _, _, _, e, _⟩ => SqL.of e) ?_ ?_
    · rintro i x σ H2 hx ⟨v1, v2, v3, v4, v5, rfl, eL, hp, T2⟩
      obtain ⟨rfl, rfl⟩ : i = 0 ∧ x = .ref p := by
        match i, hx with
        | 0, hx => exact ⟨rfl, (Option.some.inj hx).symm⟩
        | j + 1, hx => exact absurd hx (by simp)
      refine ⟨_, rfl, p, _, 3, rfl, hp, by omega, by omega, by omega, fun Lp zs H3 hz hl3 kb3 nLp3 eLp hp3 => ?_⟩
      have nLpp := (hp.ne nLp3).symm
      have T3' := tabs_purse T2 hp kb3
      refine ⟨6, rfl, by omega, by omega, ?_⟩
      refine for_range (lo := 0) (n := 6) (fun j σ H' => ∃ (v3 v4 v5 : Option V), σ = [some (.ref a), some (.ref p), some (.ref Lp), v3, v4, v5] ∧ H' L0 = some (.lst [.ref p]) ∧ H' Lp = some (.lst (zs.map V.str)) ∧ PurseAt H' p (60 + 200 * j) ∧ Tabs (T3 PF PT PP) H')
        ⟨v3, v4, v5, rfl, kb3 _ _ eL nLp, eLp, hp3, T3'⟩ ?_ ?_
      · rintro j σ H4 hj ⟨v3, v4, v5, rfl, eL4, eLp4, hp4, T4⟩
        refine ⟨_, rfl, p, _, 7, rfl, hp4, by omega, by omega, by omega, fun d H5 c0 c1 off5 hp5 => ?_⟩
        obtain ⟨m, rfl⟩ : ∃ m : Nat, d = (m : Int) := ⟨d.toNat, by omega⟩
        have kb5 : KeepBut p H4 H5 := .of_off off5
        have T5 := tabs_purse T4 hp4 kb5
        refine ⟨_, rfl, _, _, rfl, rfl, _, rfl, ite_same ?_⟩
        refine ⟨_, rfl, _, rfl, _, rfl, p, Lp, _, m, zs, rfl, hp5, by omega, nLpp, kb5 _ _ eLp4 nLpp, hz, by omega, fun x t H6 hx hs hw kb6 hp6 => ?_⟩
        have eL6 := kb6 _ _ (kb5 _ _ eL4 nLp) nLp
        have eLp6 := kb6 _ _ (kb5 _ _ eLp4 nLpp) nLpp
        refine ⟨_, rfl, _, rfl, _, rfl, p, Lp, _, zs, x, t, rfl, hp6, by omega, nLpp, eLp6, hz, hx, by omega, hw, tabs_purse T5 hp5 kb6, fun H7 g7 T7 hp7 => ⟨true, rfl, iteF ?_⟩⟩
        have st := t.size_signs
        refine ⟨_, rfl, x, t, rfl, hx.mono (g7.tk hp6), by omega, fun H8 s8 => ⟨_, rfl, _, _, rfl, by rw [hs]; exact .scl (.i _), fun H9 s9 => ⟨true, rfl, iteF ?_⟩⟩⟩
        have s79 := s8.trans s9
        exact ⟨_, _, _, rfl, s79 _ _ (g7.lst eL6 nLp), s79 _ _ (g7.lst eLp6 nLpp), (hp7.same s79).mono (by omega), T7.ext s79⟩
      · rintro σ H4 ⟨v3, v4, v5, rfl, eL4, eLp4, hp4, T4⟩
        refine ⟨_, rfl, p, _, rfl, hp4, by omega, fun H5 kb5 hp5 => ⟨true, rfl, iteF ?_⟩⟩
        exact ⟨_, _, _, _, _, rfl, kb5 _ _ eL4 nLp, hp5.mono (by omega), tabs_purse T4 hp4 kb5⟩
    · rintro σ H2 ⟨v1, v2, v3, v4, v5, rfl, _⟩
      exact k H2
end
end K3

namespace K3
open PySem PySem.Spec PyProof.Rows L2 NdefX LamX KT
open PySem.W (Frag)
section
variable {K : Frag} {h : Heap} {mg : Str → Option Value}
theorem top_mk {x : Str} {st : Stmt} {ps : List Str} {f : Addr} {od an : Option Addr} {sl : Array (Option Value)} {oc kV dc pm cd ct : Value} (X : K.In h) (G : h.Ns mainGlobals mg) (a : PySem.W.nsIn K mainGlobals x = some (some (.ref f)))
    (l : K.lookup f = some ⟨oc, od, .func (PySem.W.fnOf x x (L2.defArgs st) (L2.defBody st) (L2.defScope st) .none kV dc pm an cd ct), sl⟩) (c : PySem.W.codeIn K cd x = true) (k : PySem.W.keepIn K (.ref f) = true)
    (b : ∀ (kV doc pm : Value) (an : Option Addr) (cdv ct : Value) (us : List Value), us.length = ps.length → bindArgs (PySem.W.fnOf x x (L2.defArgs st) (L2.defBody st) (L2.defScope st) .none kV doc pm an cdv ct) ⟨us, []⟩ = pure (ps.zip us)) :
    Top K mg x st ps f (PySem.W.fnOf x x (L2.defArgs st) (L2.defBody st) (L2.defScope st) .none kV dc pm an cd ct) := by
  have F := L2.fun_mk (x := x) (qual := x) (st := st) l c k
  exact ⟨F, PySem.W.mg_of X G a, F.binds b⟩
theorem topC_mk {x : Str} {st : Stmt} {ps : List Str} {f c : Addr} {od an : Option Addr} {sl : Array (Option Value)} {oc kV dc pm ct : Value} (X : K.In h) (G : h.Ns mainGlobals mg) (a : PySem.W.nsIn K mainGlobals x = some (some (.ref f)))
    (l : K.lookup f = some ⟨oc, od, .func (PySem.W.fnOf x x (L2.defArgs st) (L2.defBody st) (L2.defScope st) .none kV dc pm an (.ref c) ct), sl⟩) (hc : PySem.W.codeIn K (.ref c) x = true) (k : PySem.W.keepIn K (.ref f) = true)
    (b : ∀ (kV doc pm : Value) (an : Option Addr) (cdv ct : Value) (us : List Value), us.length = ps.length → bindArgs (PySem.W.fnOf x x (L2.defArgs st) (L2.defBody st) (L2.defScope st) .none kV doc pm an cdv ct) ⟨us, []⟩ = pure (ps.zip us)) :
    TopC K mg x st ps f (PySem.W.fnOf x x (L2.defArgs st) (L2.defBody st) (L2.defScope st) .none kV dc pm an (.ref c) ct) c := ⟨top_mk X G a l hc k b, oc, od, kV, dc, pm, an, ct, sl, rfl, l, hc⟩
theorem gbl_mk {t : Tok} {a : Addr} {od : Option Addr} {sl : Array (Option Value)} {t1 t2 t3 : Tok} {n : Nat} (X : K.In h) (G : h.Ns mainGlobals mg) (l : PySem.W.nsIn K mainGlobals "_LETTERS" = some (some (.str abc t))) (s : PySem.W.nsIn K mainGlobals "_SIGNS" = some (some (.ref a)))
    (k : K.lookup a = some ⟨.type "tuple", od, .seq #[.str "over" t1, .str "then" t2, .str "under" t3] n, sl⟩) : Gbl K mg :=
  ⟨⟨t, PySem.W.mg_of X G l⟩, a, PySem.W.mg_of X G s, .inr ⟨_, _, _, k, rfl, rfl, by show 3 ≤ sizeLine; rw [sizeLine_eq]; omega, .cons ⟨_, rfl⟩ (.cons ⟨_, rfl⟩ (.cons ⟨_, rfl⟩ .nil))⟩⟩
theorem end_mk {l : PySem.W.OpenLaw} {w : World} {fa cF cT cP PF PT PP : Addr} {fd : FuncData} (_T : Top K mg "law" sLaw pLaw fa fd) (hT : ∀ P ∈ [PF, PT, PP], h.get? P = some (PySem.W.tabObj #[])) (nF : K.lookup PF = none) (nT : K.lookup PT = none) (nP : K.lookup PP = none)
    (CF : PySem.W.CodeHd h cF PF) (CT : PySem.W.CodeHd h cT PT) (CP : PySem.W.CodeHd h cP PP) (n1 : PF ≠ PT) (n2 : PF ≠ PP) (n3 : PT ≠ PP) (hb : ∀ (s : Shared) (u : Value), BindsTo s fd ⟨[u], []⟩ [("script", u)])
    (F : ∀ base : Heap, Tbs base mg cF cT cP PF PT PP → FnOk l.prog w K mg base L2.CX0 43 fa fd ["script"] (spLaw K PF PT PP)) : LawAtS l w K L2.CX0 43 63 "script" mg fa h := by
  refine ⟨fd, [(cF, PF), (cT, PT), (cP, PP)], spLaw K PF PT PP, ?_, ?_, ?_, hb, fun H a ns _ _ hH hS => ⟨a, ns, rfl, hS, fun p hp => ?_, fun _ => rfl⟩, fun base _ _ TB => F base ⟨TB (cF, PF) (by simp), TB (cT, PT) (by simp), TB (cP, PP) (by simp), n1, n2, n3⟩⟩
  · intro p hp
    simp only [List.mem_cons, List.not_mem_nil, or_false] at hp
    rcases hp with rfl | rfl | rfl
    · exact hT _ (by simp)
    · exact hT _ (by simp)
    · exact hT _ (by simp)
  · intro p hp
    simp only [List.mem_cons, List.not_mem_nil, or_false] at hp
    rcases hp with rfl | rfl | rfl
    · exact nF
    · exact nT
    · exact nP
  · intro p hp
    simp only [List.mem_cons, List.not_mem_nil, or_false] at hp
    rcases hp with rfl | rfl | rfl
    · exact CF
    · exact CT
    · exact CP
  · rcases mem3 hp with rfl | rfl | rfl
    · exact TabS.nil (hH (cF, PF) (by simp))
    · exact TabS.nil (hH (cT, PT) (by simp))
    · exact TabS.nil (hH (cP, PP) (by simp))
end
end K3


open PySem PySem.W PyProof.Rows
set_option maxRecDepth 100000 in
set_option maxHeartbeats 0 in
theorem PySem.Challenge.cw_phrasejoins_k03_whole_types_holds : PySem.Challenge.rw_phrasejoins_k03_whole_types.Holds := by
  w_on; o_law; k_head; (case hw => w_witness2)
  k_fill
  refine LamX.walk_ofTs (l := PySem.Challenge.rw_phrasejoins_k03_whole_types) (n := 63) (k := 43) (x := "script") (CX := fun _ => L2.CX0) rfl (by decide) rfl ⟨rfl, by decide, by decide⟩ (fun w h Y => PySem.W.km_in_of Y) ?F (fun _ _ _ _ _ h => h)
  case F =>
    intro w mg fa h Y KX G hmg
    have hT8 := PySem.W.km_tabs_of Y

    have TNodesIn := K3.top_mk (x := "nodes_in") (st := K3.sNodesIn) (ps := K3.pNodesIn) KX G (by k_is) (by k_is) (by k_is) (by k_is) (fun _ _ _ _ _ _ us hl => match us, hl with | [_, _], _ => rfl)
    have TFromInside := K3.topC_mk (x := "from_inside") (st := K3.sFromInside) (ps := K3.pFromInside) KX G (by k_is) (by k_is) (by k_is) (by k_is) (fun _ _ _ _ _ _ us hl => match us, hl with | [_, _, _], _ => rfl)
    have TIsWord := K3.top_mk (x := "is_word") (st := K3.sIsWord) (ps := K3.pIsWord) KX G (by k_is) (by k_is) (by k_is) (by k_is) (fun _ _ _ _ _ _ us hl => match us, hl with | [_], _ => rfl)
    have TIsCount := K3.top_mk (x := "is_count") (st := K3.sIsCount) (ps := K3.pIsCount) KX G (by k_is) (by k_is) (by k_is) (by k_is) (fun _ _ _ _ _ _ us hl => match us, hl with | [_], _ => rfl)
    have TIsSigned := K3.top_mk (x := "_is_signed") (st := K3.sIsSigned) (ps := K3.pIsSigned) KX G (by k_is) (by k_is) (by k_is) (by k_is) (fun _ _ _ _ _ _ us hl => match us, hl with | [_], _ => rfl)
    have TIsKind := K3.top_mk (x := "is_kind") (st := K3.sIsKind) (ps := K3.pIsKind) KX G (by k_is) (by k_is) (by k_is) (by k_is) (fun _ _ _ _ _ _ us hl => match us, hl with | [_], _ => rfl)
    have TCheckKind := K3.top_mk (x := "check_kind") (st := K3.sCheckKind) (ps := K3.pCheckKind) KX G (by k_is) (by k_is) (by k_is) (by k_is) (fun _ _ _ _ _ _ us hl => match us, hl with | [_], _ => rfl)
    have TPartsOf := K3.top_mk (x := "_parts_of") (st := K3.sPartsOf) (ps := K3.pPartsOf) KX G (by k_is) (by k_is) (by k_is) (by k_is) (fun _ _ _ _ _ _ us hl => match us, hl with | [_], _ => rfl)
    have TKindsIn := K3.top_mk (x := "kinds_in") (st := K3.sKindsIn) (ps := K3.pKindsIn) KX G (by k_is) (by k_is) (by k_is) (by k_is) (fun _ _ _ _ _ _ us hl => match us, hl with | [_], _ => rfl)
    have TFolded := K3.topC_mk (x := "folded") (st := K3.sFolded) (ps := K3.pFolded) KX G (by k_is) (by k_is) (by k_is) (by k_is) (fun _ _ _ _ _ _ us hl => match us, hl with | [_, _, _], _ => rfl)
    have TSignsOf := K3.top_mk (x := "signs_of") (st := K3.sSignsOf) (ps := K3.pSignsOf) KX G (by k_is) (by k_is) (by k_is) (by k_is) (fun _ _ _ _ _ _ us hl => match us, hl with | [_], _ => rfl)
    have TPlainsIn := K3.top_mk (x := "plains_in") (st := K3.sPlainsIn) (ps := K3.pPlainsIn) KX G (by k_is) (by k_is) (by k_is) (by k_is) (fun _ _ _ _ _ _ us hl => match us, hl with | [_], _ => rfl)
    have TPlainsOf := K3.top_mk (x := "plains_of") (st := K3.sPlainsOf) (ps := K3.pPlainsOf) KX G (by k_is) (by k_is) (by k_is) (by k_is) (fun _ _ _ _ _ _ us hl => match us, hl with | [_], _ => rfl)
    have TIsFree := K3.top_mk (x := "is_free") (st := K3.sIsFree) (ps := K3.pIsFree) KX G (by k_is) (by k_is) (by k_is) (by k_is) (fun _ _ _ _ _ _ us hl => match us, hl with | [_], _ => rfl)
    have TTurnedSign := K3.top_mk (x := "_turned_sign") (st := K3.sTurnedSign) (ps := K3.pTurnedSign) KX G (by k_is) (by k_is) (by k_is) (by k_is) (fun _ _ _ _ _ _ us hl => match us, hl with | [_, _, _], _ => rfl)
    have TTurned := K3.topC_mk (x := "turned") (st := K3.sTurned) (ps := K3.pTurned) KX G (by k_is) (by k_is) (by k_is) (by k_is) (fun _ _ _ _ _ _ us hl => match us, hl with | [_], _ => rfl)
    have TCheckMap := K3.top_mk (x := "check_map") (st := K3.sCheckMap) (ps := K3.pCheckMap) KX G (by k_is) (by k_is) (by k_is) (by k_is) (fun _ _ _ _ _ _ us hl => match us, hl with | [_, _], _ => rfl)
    have TPutIn := K3.topC_mk (x := "put_in") (st := K3.sPutIn) (ps := K3.pPutIn) KX G (by k_is) (by k_is) (by k_is) (by k_is) (fun _ _ _ _ _ _ us hl => match us, hl with | [_, _], _ => rfl)
    have TPutFor := K3.top_mk (x := "put_for") (st := K3.sPutFor) (ps := K3.pPutFor) KX G (by k_is) (by k_is) (by k_is) (by k_is) (fun _ _ _ _ _ _ us hl => match us, hl with | [_, _], _ => rfl)
    have TCheckPlains := K3.top_mk (x := "check_plains") (st := K3.sCheckPlains) (ps := K3.pCheckPlains) KX G (by k_is) (by k_is) (by k_is) (by k_is) (fun _ _ _ _ _ _ us hl => match us, hl with | [_], _ => rfl)
    have TCheckCount := K3.top_mk (x := "check_count") (st := K3.sCheckCount) (ps := K3.pCheckCount) KX G (by k_is) (by k_is) (by k_is) (by k_is) (fun _ _ _ _ _ _ us hl => match us, hl with | [_], _ => rfl)
    have TAllKinds := K3.top_mk (x := "all_kinds") (st := K3.sAllKinds) (ps := K3.pAllKinds) KX G (by k_is) (by k_is) (by k_is) (by k_is) (fun _ _ _ _ _ _ us hl => match us, hl with | [_, _], _ => rfl)
    have TManyKinds := K3.top_mk (x := "many_kinds") (st := K3.sManyKinds) (ps := K3.pManyKinds) KX G (by k_is) (by k_is) (by k_is) (by k_is) (fun _ _ _ _ _ _ us hl => match us, hl with | [_, _], _ => rfl)
    have TLPurse := K3.top_mk (x := "_law_purse") (st := K3.sLPurse) (ps := K3.pLPurse) KX G (by k_is) (by k_is) (by k_is) (by k_is) (fun _ _ _ _ _ _ us hl => match us, hl with | [_, _], _ => rfl)
    have TLMixed := K3.top_mk (x := "_law_mixed") (st := K3.sLMixed) (ps := K3.pLMixed) KX G (by k_is) (by k_is) (by k_is) (by k_is) (fun _ _ _ _ _ _ us hl => match us, hl with | [_, _, _], _ => rfl)
    have TLDraw := K3.top_mk (x := "_law_draw") (st := K3.sLDraw) (ps := K3.pLDraw) KX G (by k_is) (by k_is) (by k_is) (by k_is) (fun _ _ _ _ _ _ us hl => match us, hl with | [_, _], _ => rfl)
    have TLPurses := K3.top_mk (x := "_law_purses") (st := K3.sLPurses) (ps := K3.pLPurses) KX G (by k_is) (by k_is) (by k_is) (by k_is) (fun _ _ _ _ _ _ us hl => match us, hl with | [_, _], _ => rfl)
    have TLOneOf := K3.top_mk (x := "_law_one_of") (st := K3.sLOneOf) (ps := K3.pLOneOf) KX G (by k_is) (by k_is) (by k_is) (by k_is) (fun _ _ _ _ _ _ us hl => match us, hl with | [_, _], _ => rfl)
    have TLShuffled := K3.top_mk (x := "_law_shuffled") (st := K3.sLShuffled) (ps := K3.pLShuffled) KX G (by k_is) (by k_is) (by k_is) (by k_is) (fun _ _ _ _ _ _ us hl => match us, hl with | [_, _], _ => rfl)
    have TLExact := K3.top_mk (x := "_law_exact") (st := K3.sLExact) (ps := K3.pLExact) KX G (by k_is) (by k_is) (by k_is) (by k_is) (fun _ _ _ _ _ _ us hl => match us, hl with | [_, _], _ => rfl)
    have TLWord := K3.top_mk (x := "_law_word") (st := K3.sLWord) (ps := K3.pLWord) KX G (by k_is) (by k_is) (by k_is) (by k_is) (fun _ _ _ _ _ _ us hl => match us, hl with | [_], _ => rfl)
    have TLWords := K3.top_mk (x := "_law_words") (st := K3.sLWords) (ps := K3.pLWords) KX G (by k_is) (by k_is) (by k_is) (by k_is) (fun _ _ _ _ _ _ us hl => match us, hl with | [_, _], _ => rfl)
    have TLPlains := K3.top_mk (x := "_law_plains") (st := K3.sLPlains) (ps := K3.pLPlains) KX G (by k_is) (by k_is) (by k_is) (by k_is) (fun _ _ _ _ _ _ us hl => match us, hl with | [_, _], _ => rfl)
    have TLKind := K3.top_mk (x := "_law_kind") (st := K3.sLKind) (ps := K3.pLKind) KX G (by k_is) (by k_is) (by k_is) (by k_is) (fun _ _ _ _ _ _ us hl => match us, hl with | [_, _, _], _ => rfl)
    have TLFreeKind := K3.top_mk (x := "_law_free_kind") (st := K3.sLFreeKind) (ps := K3.pLFreeKind) KX G (by k_is) (by k_is) (by k_is) (by k_is) (fun _ _ _ _ _ _ us hl => match us, hl with | [_, _, _], _ => rfl)
    have TLPlainList := K3.top_mk (x := "_law_plain_list") (st := K3.sLPlainList) (ps := K3.pLPlainList) KX G (by k_is) (by k_is) (by k_is) (by k_is) (fun _ _ _ _ _ _ us hl => match us, hl with | [_], _ => rfl)
    have TLPlainWords := K3.top_mk (x := "_law_plain_words") (st := K3.sLPlainWords) (ps := K3.pLPlainWords) KX G (by k_is) (by k_is) (by k_is) (by k_is) (fun _ _ _ _ _ _ us hl => match us, hl with | [_], _ => rfl)
    have TLTurned := K3.top_mk (x := "_law_turned") (st := K3.sLTurned) (ps := K3.pLTurned) KX G (by k_is) (by k_is) (by k_is) (by k_is) (fun _ _ _ _ _ _ us hl => match us, hl with | [_], _ => rfl)
    have TLText := K3.top_mk (x := "_law_text") (st := K3.sLText) (ps := K3.pLText) KX G (by k_is) (by k_is) (by k_is) (by k_is) (fun _ _ _ _ _ _ us hl => match us, hl with | [_], _ => rfl)
    have TLPut := K3.top_mk (x := "_law_put") (st := K3.sLPut) (ps := K3.pLPut) KX G (by k_is) (by k_is) (by k_is) (by k_is) (fun _ _ _ _ _ _ us hl => match us, hl with | [_, _], _ => rfl)
    have TLInOrder := K3.top_mk (x := "_law_in_order") (st := K3.sLInOrder) (ps := K3.pLInOrder) KX G (by k_is) (by k_is) (by k_is) (by k_is) (fun _ _ _ _ _ _ us hl => match us, hl with | [_, _], _ => rfl)
    have TLCountTo := K3.top_mk (x := "_law_count_to") (st := K3.sLCountTo) (ps := K3.pLCountTo) KX G (by k_is) (by k_is) (by k_is) (by k_is) (fun _ _ _ _ _ _ us hl => match us, hl with | [_, _], _ => rfl)
    have TLKindRight := K3.top_mk (x := "_law_kind_right") (st := K3.sLKindRight) (ps := K3.pLKindRight) KX G (by k_is) (by k_is) (by k_is) (by k_is) (fun _ _ _ _ _ _ us hl => match us, hl with | [_, _, _], _ => rfl)
    have TLListsRight := K3.top_mk (x := "_law_lists_right") (st := K3.sLListsRight) (ps := K3.pLListsRight) KX G (by k_is) (by k_is) (by k_is) (by k_is) (fun _ _ _ _ _ _ us hl => match us, hl with | [_], _ => rfl)
    have TLaw := K3.top_mk (x := "law") (st := K3.sLaw) (ps := K3.pLaw) KX G (by k_is) (by k_is) (by k_is) (by k_is) (fun _ _ _ _ _ _ us hl => match us, hl with | [_], _ => rfl)
    have E := hmg.symm.trans TLaw.g
    cases E
    have B : K3.Blt mg := ⟨PySem.W.mg_none_of KX G (by k_is), PySem.W.mg_none_of KX G (by k_is), PySem.W.mg_none_of KX G (by k_is), PySem.W.mg_none_of KX G (by k_is), PySem.W.mg_none_of KX G (by k_is), PySem.W.mg_none_of KX G (by k_is), PySem.W.mg_none_of KX G (by k_is), PySem.W.mg_none_of KX G (by k_is), PySem.W.mg_none_of KX G (by k_is), PySem.W.mg_none_of KX G (by k_is), PySem.W.mg_none_of KX G (by k_is), PySem.W.mg_none_of KX G (by k_is), PySem.W.mg_none_of KX G (by k_is), PySem.W.mg_none_of KX G (by k_is), PySem.W.mg_none_of KX G (by k_is), PySem.W.mg_none_of KX G (by k_is), PySem.W.mg_none_of KX G (by k_is)⟩
    have GG : K3.Gbl _ mg := K3.gbl_mk KX G (by k_is) (by k_is) (by k_is)
    refine K3.end_mk (cF := 175) (cT := 211) (cP := 223) (PF := 171) (PT := 207) (PP := 219) TLaw (fun P hP => hT8 P (by simp only [List.mem_cons, List.not_mem_nil, or_false] at hP ⊢; rcases hP with rfl | rfl | rfl <;> simp)) (by kernel_rfl) (by kernel_rfl) (by kernel_rfl) (PySem.W.codeHd_of_K KX (by kernel_rfl)) (PySem.W.codeHd_of_K KX (by kernel_rfl)) (PySem.W.codeHd_of_K KX (by kernel_rfl)) (by decide) (by decide) (by decide) (fun s u => .of_eq rfl) (fun base tb => ?_)
    have I : K3.TIs _ mg _ _ _ _ _ _ := ⟨TIsKind, TIsSigned, TIsWord, B, GG⟩
    have UK : K3.TKs _ mg _ _ _ _ _ _ _ _ := ⟨TKindsIn, TNodesIn, TPartsOf, TCheckKind⟩
    have UF : K3.TFs _ mg base _ _ _ _ _ 175 211 223 171 207 219 _ _ _ _ := ⟨TFolded, TFromInside, TNodesIn, TPartsOf, tb⟩
    have UD : K3.TDs _ mg _ _ _ _ _ _ _ _ _ _ := ⟨TLDraw, TLMixed, TLWord, TLWords, TLOneOf, B⟩
    have R : K3.TRs PySem.Challenge.rw_phrasejoins_k03_whole_types.prog w _ mg base 171 207 219 _ _ _ _ _ _ _ _ _ _ _ _ _ _ _ _ _ _ _ _ _ _ _ _ _ _ _ _ := ⟨TLPlainWords, TLText, TSignsOf, TPlainsOf, TIsFree, TLExact, TIsKind, TTurned.T, TLTurned, TLShuffled, TLKind, TLDraw, TPutFor, TLPut,
      K3.ok_plainWords TLPlainWords TLPlainList B, K3.ok_text TLText B 30 (by decide), K3.ok_signsOf TSignsOf UK I, K3.ok_plainsOf TPlainsOf TPlainsIn UK I, K3.ok_isFree TIsFree UK I, K3.ok_exact TLExact B 40 (by decide), K3.ok_isKind TIsKind TIsSigned TIsWord B GG,
      K3.ok_turned TTurned UF TCheckKind TTurnedSign I, K3.ok_lturned TLTurned B 30 (by decide), K3.ok_shuffled TLShuffled TLDraw TLMixed B, K3.ok_kind TLKind UD 2 (by decide), K3.ok_draw TLDraw TLMixed B, K3.ok_putFor TPutFor TPutIn UF TCheckMap TPlainsIn UK I, K3.ok_lput TLPut B 30 (by decide)⟩
    exact K3.ok_law TLaw B TLPurses TLPlains TLDraw TLKind TLFreeKind TLKindRight TLExact TSignsOf TLListsRight (K3.ok_purses TLPurses TLPurse B) (K3.ok_plains TLPlains UD) (K3.ok_draw TLDraw TLMixed B) (K3.ok_kind TLKind UD 6 (by decide)) (K3.ok_freeKind TLFreeKind UD 6 (by decide))
      (K3.ok_kindRight TLKindRight R B) (K3.ok_exact TLExact B 40 (by decide)) (K3.ok_signsOf TSignsOf UK I)
      (K3.ok_listsRight TLListsRight B TLPlains TLDraw TLInOrder TAllKinds TManyKinds TLExact TLCountTo (K3.ok_plains TLPlains UD) (K3.ok_draw TLDraw TLMixed B) (K3.ok_inOrder TLInOrder B 2 (by decide)) (K3.ok_allKinds B GG TCheckPlains TCheckCount TIsCount TIsWord TAllKinds) (K3.ok_manyKinds GG TCheckPlains TCheckCount TIsCount TIsWord TManyKinds B) (K3.ok_exact TLExact B 40 (by decide)) (K3.ok_countTo TLCountTo B))
