import PyProof.Rows.All
import Wide.All
import OpenK.AllK
import Wide.FinOn
import HandS.ForMost
import HandS.Translate
import HandS.StrMore
import HandS.Strs
import HandS.IsInst
import HandS.Wide
import HandS.Evl
import HandS.TupAny
import HandS.Style
import HandS.Codes
import HandS.Walk
import HandS.NoneIn
import HandS.Ends
import PySem.Challenge.RW_bulkload_k01_kinds_looked_at
set_option Elab.async false
set_option maxRecDepth 100000
set_option maxHeartbeats 4000000
/-! x.translate(d) for a dict of small ints; g tells what becomes of a sign -/
namespace Xg
open PySem PySem.Spec PyProof.Rows L2
open Builtin Builtin.Str

/-- the table f does to each sign what g says -/
def Maps (f : Key → Option Value) (g : Nat → Nat) : Prop :=
  ∀ c : Nat, (∃ t, g c < 128 ∧ f (.inl (c : Int)) = some (.int ((g c : Nat) : Int) t)) ∨ (g c = c ∧ f (.inl (c : Int)) = none)

section
variable {P : Program} {w : World} {A : Around} {E : Value → Shared → Prop} {s : Shared} {d : Addr}
variable {f : Key → Option Value} {g : Nat → Nat}
abbrev Grows (h h' : Heap) : Prop := ∀ b o, h.get? b = some o → h'.get? b = some o
theorem map_grows {h h' : Heap} (m : h.MapOf (mixKind P w) d f) (k : Grows h h') : h'.MapOf (mixKind P w) d f :=
  match m with
  | ⟨ob, es, ep, e1, r⟩ => ⟨ob, es, ep, k _ _ e1, r⟩
/-- one sign: what the table says of it -/
theorem look_sign {c : Nat} {Q : Mapped → Shared → Prop} (cool : A.handled = none) (low : (d == sysModules) = false)
    (tab : s.heap.MapOf (mixKind P w) d f) (mp : Maps f g)
    (q : ∀ (r : Mapped) (h' : Heap) (k : Nat), ((r = .char (g c) ∧ g c < 128) ∨ (r = .keep ∧ g c = c)) → Grows s.heap h' →
      Q r { s with heap := h', toks := k }) : wpAny (model P w) A (tableLookup (.ref d) c) Q E s := by
  have isK : ∀ tk, (mixKind P w).is (Sum.inl (c : Int)) (Value.int (c : Int) tk) = true := fun tk => keyIs_int _ tk
  unfold tableLookup
  refine wpAny_bind (wpAny_attempt (wpAny_bind (wpAny_mkInt ?_)))
  rcases mp c with ⟨t, lt, ef⟩ | ⟨same, ef⟩
  · refine wpAny_getItem_of (knd := mixKind P w) (k := Sum.inl (c : Int)) (isK _) tab ef ?_
    show wpAny _ _ (do let o ← asInt? (Value.int ((g c : Nat) : Int) t); _) _ _ _
    refine wpAny_bind (wpAny_of_eq (a := some ((g c : Nat) : Int)) rfl ?_)
    have n1 : ¬ (((g c : Nat) : Int) < 0) := by omega
    have n2 : ¬ (((g c : Nat) : Int) > 0x10FFFF) := by omega
    show wpAny _ _ (if (decide (((g c : Nat) : Int) < 0) || decide (((g c : Nat) : Int) > 0x10FFFF)) = true then _
      else pure (Mapped.char (((g c : Nat) : Int)).toNat)) _ _ _
    rw [decide_eq_false n1, decide_eq_false n2, Bool.or_false, if_neg Bool.false_ne_true]
    exact wpAny_pure (q _ s.heap _ (Or.inl ⟨by rw [Int.toNat_natCast], lt⟩) fun _ _ z => z)
  · refine wpAny_getItem_missing_of (knd := mixKind P w) (k := Sum.inl (c : Int)) (isK _) low cool tab ef fun h' e hx => ?_
    show wpAny _ _ (do let b ← isInstance (.ref e) (.type "LookupError"); _) _ _ _
    obtain ⟨ob, t, eo, ec, _⟩ := hx.there
    refine wpAny_bind (wpAny_isInstance (T := "KeyError") (b := true) ⟨ob, eo, ec⟩ key_is_lookup ?_)
    show wpAny _ _ (if true = true then (do rule "str.translate.not-in-table"; pure Mapped.keep) else _) _ _ _
    rw [if_pos rfl]
    exact wpAny_bind (wpAny_rule (wpAny_pure (q _ h' _ (Or.inr ⟨rfl, same⟩) hx.keeps)))

abbrev sing (c : Nat) : Str := ⟨#[c]⟩
theorem glue (g : Nat → Nat) (l : List Nat) : ∀ acc : Array Nat,
    (l.map fun c => sing (g c)).foldl (fun (a : Array Nat) (p : Str) => a ++ p.cps) acc = acc ++ (l.map g).toArray := by
  induction l with
  | nil => intro acc; simp
  | cons c l ih =>
    intro acc
    simp only [List.map_cons, List.foldl_cons]
    rw [ih]
    apply Array.toList_inj.mp
    simp
abbrev TSt : Type := List Str × Nat × Bool × List (Nat × Option Nat) × Bool
/-- between two signs -/
structure Mid (x : List Nat) (g : Nat → Nat) (quick : Bool) (s : Shared) (rest : List Nat) (st : TSt) (s' : Shared) : Prop where
  ex : ∃ (past : List Nat) (bits : List Str) (known : List (Nat × Option Nat)) (h' : Heap) (k : Nat),
    past ++ rest = x ∧ st = (bits, past.length, quick, known, false) ∧ bits.reverse = past.map (fun c => sing (g c)) ∧
    (∀ c a, known.lookup c = some a → a = some (g c)) ∧ s' = { s with heap := h', toks := k } ∧ Grows s.heap h'
theorem Mid.step {x past rest : List Nat} {c k : Nat} {quick : Bool} {bits : List Str} {known : List (Nat × Option Nat)} {h' : Heap}
    (e1 : past ++ c :: rest = x) (e2 : bits.reverse = past.map (fun c => sing (g c))) (e3 : ∀ c a, known.lookup c = some a → a = some (g c))
    (gr : Grows s.heap h') : Mid x g quick s rest (sing (g c) :: bits, past.length + 1, quick, known, false) { s with heap := h', toks := k } := by
  refine ⟨past ++ [c], sing (g c) :: bits, known, h', k, ?_, ?_, ?_, e3, rfl, gr⟩
  · rw [← e1]; simp
  · rw [List.length_append, List.length_singleton]
  · rw [List.reverse_cons, e2, List.map_append, List.map_cons, List.map_nil]
theorem known_cons {known : List (Nat × Option Nat)} {c : Nat} (e3 : ∀ c a, known.lookup c = some a → a = some (g c)) :
    ∀ c' a, List.lookup c' ((c, some (g c)) :: known) = some a → a = some (g c') := fun c' a z => by
  rw [List.lookup_cons] at z
  cases hb : c' == c with
  | true =>
    rw [hb] at z
    rw [beq_iff_eq.mp hb]
    exact (Option.some.inj z).symm
  | false =>
    rw [hb] at z
    exact e3 c' a z
theorem meets_tr (x : List Nat) (t : Tok) (low : (d == sysModules) = false) (hz : x.length ≤ 16000000) :
    MeetsIn P w («str.translate» ⟨[.str (SX.S x) t, .ref d], []⟩) (fun A R s =>
      A.handled = none ∧ (∃ f, s.heap.MapOf (mixKind P w) d f ∧ Maps f g) ∧
      ∀ (v : Value) (h' : Heap) (k : Nat), Grows s.heap h' → (∃ t', v = .str (SX.S (x.map g)) t') →
        R (.ok (.ret v)) { s with heap := h', toks := k }) := by
  refine .of_wp fun A R s hyp => ?_
  obtain ⟨cool, ⟨f, tab, mp⟩, back⟩ := hyp
  have cool1 : A.in1.handled = none := cool
  show wpAny _ _ (if ((SX.S x).length == 0) = true then (do rule "str.translate.empty"; ret (.str (SX.S x) t)) else (do
    let st ← forIn (SX.S x).cps (([], 0, (SX.S x).cps.all fun y => decide (y < 128), [], false) : TSt) _
    _)) _ _ s
  by_cases emp : ((SX.S x).length == 0) = true
  · rw [if_pos emp]
    have xe : x = [] := by
      rw [beq_iff_eq, SX.S_len] at emp
      exact List.length_eq_zero_iff.mp emp
    subst xe
    exact wpAny_bind (wpAny_rule (wpAny_pure ⟨_, rfl, back _ s.heap s.toks (fun _ _ z => z) ⟨t, rfl⟩⟩))
  rw [if_neg emp]
  generalize ((SX.S x).cps.all fun y => decide (y < 128)) = quick
  refine wpAny_bind (MeetsSeq2.wpAny_forIn_array _ (Mid x g quick s) _ (fun c rest st s' mid => ?turn) (fun st s' mid => ?fin) (SX.S x).cps ([], 0, quick, [], false) ?start)
  case start =>
    exact ⟨[], [], [], s.heap, s.toks, by simp [SX.S], rfl, rfl, fun c a z => (by cases z), rfl, fun _ _ z => z⟩
  case turn =>
    obtain ⟨past, bits, known, h', k, e1, es, e2, e3, e4, gr⟩ := mid
    subst es e4
    have short : past.length ≤ 16000000 := by
      have z := congrArg List.length e1
      rw [List.length_append] at z
      omega
    have tab' : ({ s with heap := h', toks := k } : Shared).heap.MapOf (mixKind P w) d f := map_grows tab gr
    show wpAny _ _ (if tooLong past.length = true then _ else (if quick = true then _ else _)) _ _ _
    rw [show tooLong past.length = false from PyProof.Rows.short24 (by omega), if_neg Bool.false_ne_true]
    cases quick with
    | true =>
      rw [if_pos rfl]
      cases hl : known.lookup c with
      | some a =>
        cases e3 c a hl
        refine wpAny_bind (wpAny_pure ?_)
        exact wpAny_pure (Mid.step e1 e2 e3 gr)
      | none =>
        refine wpAny_bind (look_sign (g := g) cool1 low tab' mp fun r h2 k2 hr g2 => ?_)
        have gg : Grows s.heap h2 := fun b o z => g2 b o (gr b o z)
        rcases hr with ⟨rfl, lt⟩ | ⟨rfl, same⟩
        · simp only [if_pos lt]
          refine wpAny_bind (wpAny_pure ?_)
          refine wpAny_pure ?_
          exact Mid.step (known := (c, some (g c)) :: known) (k := k2) e1 e2 (known_cons e3) gg
        · refine wpAny_bind (wpAny_pure ?_)
          refine wpAny_pure ?_
          have z := Mid.step (s := s) (quick := true) (known := (c, some (g c)) :: known) (k := k2) e1 e2 (known_cons e3) gg
          rw [same] at z
          exact z
    | false =>
      rw [if_neg Bool.false_ne_true]
      show wpAny _ _ (if false = true then _ else _) _ _ _
      rw [if_neg Bool.false_ne_true]
      refine wpAny_bind (look_sign (g := g) cool1 low tab' mp fun r h2 k2 hr g2 => ?_)
      have gg : Grows s.heap h2 := fun b o z => g2 b o (gr b o z)
      have z := Mid.step (s := s) (quick := false) (known := known) (k := k2) e1 e2 e3 gg
      rcases hr with ⟨rfl, _⟩ | ⟨rfl, same⟩
      · exact wpAny_pure z
      · rw [same] at z
        exact wpAny_pure z
  case fin =>
    obtain ⟨past, bits, known, h', k, e1, es, e2, e3, e4, gr⟩ := mid
    subst es e4
    have ex : past = x := by rw [← e1, List.append_nil]
    subst ex
    show wpAny _ _ (if tooLong past.length = true then _ else retStr { cps := List.foldl (fun acc (p : Str) => acc ++ p.cps) #[] bits.reverse }) _ _ _
    rw [show tooLong past.length = false from PyProof.Rows.short24 (by omega), if_neg Bool.false_ne_true, e2, glue]
    have ev : (⟨#[] ++ (past.map g).toArray⟩ : Str) = SX.S (past.map g) := by
      rw [Array.empty_append] <;> rfl
    rw [ev]
    exact wpAny_bind (wpAny_mkStr (wpAny_pure ⟨_, rfl, back _ h' _ gr ⟨_, rfl⟩⟩) (by rw [SX.S_len, List.length_map, sizeLine_eq]; omega))
end
end Xg

/-! len(set(t)), t a tuple of texts -/
namespace Xg
open PySem PySem.Spec PyProof.Rows L2

/-- each once, as they come -/
def once : List Str → List Str := fun l => l.foldl (fun acc x => if x ∈ acc then acc else acc ++ [x]) []
def tops (xs : List Str) (i : Nat) : List Str := once (xs.take i)
theorem tops_zero (xs : List Str) : tops xs 0 = [] := by unfold tops; rw [List.take_zero]; rfl
theorem tops_next {xs : List Str} {i : Nat} {x : Str} (h : xs[i]? = some x) :
    tops xs (i + 1) = if x ∈ tops xs i then tops xs i else tops xs i ++ [x] := by
  unfold tops once
  rw [List.take_add_one, h, List.foldl_append]
  rfl
theorem tops_len (xs : List Str) : ∀ i, (tops xs i).length ≤ i
  | 0 => by rw [tops_zero]; exact Nat.le_refl _
  | i + 1 => by
    have ih := tops_len xs i
    cases h : xs[i]? with
    | none =>
      have e : tops xs (i + 1) = tops xs i := by
        unfold tops
        rw [List.take_add_one, h]
        simp
      rw [e]
      omega
    | some x =>
      rw [tops_next h]
      by_cases m : x ∈ tops xs i
      · rw [if_pos m]; omega
      · rw [if_neg m, List.length_append, List.length_singleton]; omega

section
variable {P : Program} {w : World} {A : Around} {R : Result → Shared → Prop} {it : Addr} {fp wr : List Addr}
variable {G : Array GenState → Array GenState → Prop} {n : Nat} {Pn : Nat → Value → Prop} {St : Nat → Shared → Prop}
/-- the set's own loop over what is walked -/
theorem fill_set (W : WalksS P w A.in1 it fp wr G n Pn St) (S : Addr) (out : S ∉ fp) (xs : List Str) (hz : xs.length = n)
    (isx : ∀ i v, Pn i v → ∃ x t, xs[i]? = some x ∧ v = .str x t) (small : n + 1 < scanBound) :
    ∀ (left i : Nat) (s : Shared), i + left = n → St i s →
      s.heap.SetOf (strKind P w) S (fun y => decide (y ∈ tops xs i)) (tops xs i).length →
      (∀ s', Moved (S :: wr) G s s' → s'.heap.SetOf (strKind P w) S (fun y => decide (y ∈ tops xs n)) (tops xs n).length →
        R (.ok (.ret .none)) s') →
      codeAny (model P w) A (.builtin "set.update.loop" ⟨[.ref S, .ref it], []⟩) R s := by
  have outw : S ∉ wr := fun z => out (W.sub _ z)
  have wide : ∀ b ∈ wr, b ∈ S :: wr := fun b z => List.mem_cons_of_mem _ z
  have stays : ∀ {s s' : Shared} {T : Str → Bool} {m : Nat}, Moved wr G s s' → s.heap.SetOf (strKind P w) S T m →
      s'.heap.SetOf (strKind P w) S T m := fun mv ⟨ob, es, ep, tb, eo, r⟩ => ⟨ob, es, ep, tb, mv.heap S _ outw eo, r⟩
  intro left
  induction left with
  | zero =>
    intro i s ei st hs back
    have ein : i = n := by omega
    subst ein
    refine codeAny_builtin PyProof.Rows.F.entry_set_update_loop ?_
    rw [Around.under_plainId PyProof.Rows.F.plain_set_update_loop _]
    show wpAny _ A.in1 (pyNext (.ref it) >>= _) _ _ s
    refine wpAny_bind (W.done s _ _ st fun s1 mv => ?_)
    show wpAny _ A.in1 (ret Value.none) _ _ s1
    exact wpAny_pure (back s1 (mv.mono wide) (stays mv hs))
  | succ left ih =>
    intro i s ei st hs back
    refine codeAny_builtin PyProof.Rows.F.entry_set_update_loop ?_
    rw [Around.under_plainId PyProof.Rows.F.plain_set_update_loop _]
    show wpAny _ A.in1 (pyNext (.ref it) >>= _) _ _ s
    refine wpAny_bind (W.item i s _ _ (by omega) st fun v s1 hv st1 mv => ?_)
    obtain ⟨x, t, ex, rfl⟩ := isx i v hv
    have hs1 := stays mv hs
    show wpAny _ A.in1 (holding [Value.str x t] (setAdd S (.str x t)) >>= _) _ _ s1
    refine wpAny_bind (wpAny_holding ?_)
    unfold setAdd
    refine wpAny_holding ?_
    refine wpAny_bind ((strKind P w).pyHash (k := x) (strKind_is _ _ _ _) ?_)
    have room : (tops xs i).length + 1 < scanBound := by
      have := tops_len xs i
      omega
    refine wpAny_setAddHashed_of (knd := strKind P w) (s := { s1 with toks := s1.toks + 1 }) (strKind_is _ _ _ _) rfl hs1 room fun h2 sb hs2 => ?_
    have hs3 : h2.SetOf (strKind P w) S (fun y => decide (y ∈ tops xs (i + 1))) (tops xs (i + 1)).length := by
      rw [tops_next ex]
      by_cases m : x ∈ tops xs i
      · rw [if_pos m]
        refine SetOf_congr hs2 (fun y => ?_) (by rw [if_pos (decide_eq_true m)])
        by_cases q : y = x
        · subst q; simp [m]
        · simp [q]
      · rw [if_neg m]
        refine SetOf_congr hs2 (fun y => ?_) (by rw [if_neg (by simp [m]), List.length_append, List.length_singleton])
        simp [List.mem_append]
    refine wpAny_pure ⟨plainId_quiet PyProof.Rows.F.plain_set_update_loop _, ?_⟩
    refine ih (i + 1) _ (by omega) (W.frame _ s1 _ _ st1 (Nat.le_succ _) fun b hb o e => ?_) hs3 fun s4 mv4 hs4 => ?_
    · rw [sb.2 b fun z : b = S => out (z ▸ hb)]
      exact e
    · refine back s4 (Moved.trans W.gtrans ((mv.mono wide).then_heap (Nat.le_succ _) fun b o hb e => ?_) mv4) hs4
      rw [sb.2 b fun z : b = S => hb (by rw [z]; exact List.mem_cons_self)]
      exact e
end
theorem str_here {us : List Value} {xs : List Str} (r : Vals (xs.map V.str) us) {i : Nat} {v : Value} (h : us[i]? = some v) :
    ∃ x t, xs[i]? = some x ∧ v = .str x t := by
  induction xs generalizing us i with
  | nil => cases r; simp at h
  | cons x xs ih =>
    cases r with
    | cons r1 rs =>
      cases i with
      | zero =>
        obtain ⟨t, e⟩ := r1
        simp at h
        exact ⟨x, t, rfl, by rw [← h, e]⟩
      | succ i =>
        obtain ⟨y, t, e1, e2⟩ := ih rs (i := i) (by simpa using h)
        exact ⟨y, t, by simpa using e1, e2⟩

section
variable {P : Program} {w : World} {A : Around} {E : Value → Shared → Prop} {s : Shared}
abbrev mtSet (led : Bool) : Obj := { cls := .type "set", dict := none, data := .set #[] 0 (.fresh 0 0 led) }
theorem set_of_tuple {l : Addr} {us : Array Value} {xs : List Str} {Q : Value → Shared → Prop}
    (cool : A.handled = none) (tup : s.heap.IsTuple l us) (r : Vals (xs.map V.str) us.toList) (small : us.size + 1 < scanBound)
    (q : ∀ (h' : Heap) (tk : Nat), h'.SetOf (strKind P w) s.heap.objs.size (fun y => decide (y ∈ once xs)) (once xs).length →
      (∀ b o, b < s.heap.objs.size → s.heap.get? b = some o → h'.get? b = some o) →
      Q (.ref s.heap.objs.size) { s with heap := h', toks := tk }) :
    wpAny (model P w) A (call (.type "set") [.ref l]) Q E s := by
  have lenx : xs.length = us.size := by
    have := r.length
    rwa [List.length_map, Array.length_toList] at this
  have allx : tops xs us.size = once xs := by
    unfold tops
    rw [← lenx, List.take_length]
  obtain ⟨c, tl, line⟩ := F.called_set.mro
  have made := F.called_set.made
  have below := F.called_set.sub
  refine wpAny_call (codeAny_of_tree ?_)
  show wpAny _ _ (callAny (.type "set") _) _ _ _
  refine wpAny_pure ⟨Code.quiet_builtin _ (by decide +kernel), codeAny_builtin F.entry_type_call ?_⟩
  rw [Around.under_plain (weight_type_call_type "set" [.ref l] []) rfl]
  have f1 := F.called_set.notType
  have f2 := F.called_set.canCreate
  have f3 := F.typeCall_set_1 (.ref l)
  repeat (any_goals (first | assumption | wp_step))
  refine codeAny_mono (code_set_new_1 (.ref l) (E := E)
    (Q₁ := fun ob s1 => ∃ led : Bool, ob = .ref s.heap.objs.size ∧ s1 = { s with heap := s.heap.push (mtSet led) }) fun led => ⟨led, rfl, rfl⟩) fun res s1 hres => ?_
  cases res with
  | error e => exact hres
  | ok fl =>
    cases fl with
    | ret ob =>
      obtain ⟨led, rfl, rfl⟩ := hres
      have atS : (s.heap.push (mtSet led)).get? s.heap.objs.size = some (mtSet led) := Heap.get?_push_size _ rfl
      have tyS : Shared.TypeIs { s with heap := s.heap.push (mtSet led) } (.ref s.heap.objs.size) "set" := ⟨_, atS, rfl⟩
      have g1 := F.called_set.init.lookup
      have g2 := F.called_set.init.bind (.ref s.heap.objs.size)
      repeat (any_goals (first | assumption | wp_step))
      refine codeAny_mono (codeAny_call_builtin (R := wants (fun v s2 => v = .none ∧ ∃ h' tk, s2 = { s with heap := h', toks := tk } ∧
          h'.SetOf (strKind P w) s.heap.objs.size (fun y => decide (y ∈ once xs)) (once xs).length ∧
          (∀ b o, b < s.heap.objs.size → s.heap.get? b = some o → h'.get? b = some o)) E)
        F.called_set.init.plain F.entry_set_init (check_set_init_1 tyS ?_)) fun res2 s2 hres2 => ?_
      · obtain ⟨ol, eol, ecl, nl, edl⟩ := tup
        obtain ⟨ocls, odict, odata, oslots⟩ := ol
        simp only at ecl edl
        subst ecl edl
        have eol1 : (s.heap.push (mtSet led)).get? l = some { cls := .type "tuple", dict := odict, data := .seq us nl, slots := oslots } :=
          Heap.get?_push_of_some _ eol
        have n1 := F.sub_tuple_set
        have n2 := F.sub_tuple_frozenset
        have n3 : (Value.type "tuple" == Value.type "dict") = false := by decide
        have tup1 : (s.heap.push (mtSet led)).IsTuple l us := ⟨_, eol1, rfl, nl, rfl⟩
        unfold Builtin.«set.__init__» noKeywords Builtin.Frozenset.updateFrom
        generalize ePI : pyIter = PI
        wp_walk
        subst ePI
        refine wpAny_pyIter_tuple tup1 ?_
        refine wpAny_bind (wpAny_runValue ?_)
        have lo : l < s.heap.objs.size := Heap.lt_size eol
        have cool3 : A.in1.in1.in1.handled = none := by simp [cool]
        have sz1 : (s.heap.push (mtSet led)).objs.size = s.heap.objs.size + 1 := Heap.size_push ..
        have apart : l ≠ (s.heap.push (mtSet led)).objs.size := by
          rw [sz1]; exact Nat.ne_of_lt (Nat.lt_succ_of_lt lo)
        have out : s.heap.objs.size ∉ [(s.heap.push (mtSet led)).objs.size, l] := by
          rw [sz1]
          simp only [List.mem_cons, List.not_mem_nil, or_false, not_or]
          exact ⟨Nat.ne_of_lt (Nat.lt_succ_self _), Nat.ne_of_gt lo⟩
        refine fill_set ((Walks.tuple cool3 _ l apart us).toS) s.heap.objs.size out xs lenx
          (fun i v hv => str_here r (by rw [Array.getElem?_toList]; exact hv)) small us.size 0 _ (by omega)
          ⟨⟨_, Heap.get?_push_size _ rfl, rfl, rfl⟩, tup1.push _⟩ ?first ?last
        case first =>
          have got : ((s.heap.push (mtSet led)).push { cls := .type "tuple_iterator", data := .fields #[.ref l, .int 0 0] }).get?
              s.heap.objs.size = some (mtSet led) := Heap.get?_push_of_some _ atS
          exact SetOf_congr ((setObjOf_fresh (knd := strKind P w) led).setOf got (by unfold scanBound; omega))
            (fun y => by rw [tops_zero]; rfl) (by rw [tops_zero]; rfl)
        case last =>
          intro s3 mv hs3
          rw [allx] at hs3
          obtain ⟨h3, g3, d3, tk3, os3⟩ := s3
          cases (show g3 = s.gens from mv.gens)
          cases (show d3 = s.drawn from mv.drawn)
          cases (show os3 = s.os from mv.os)
          show wpAny _ _ _ _ _ _
          refine wpAny_pure ?_
          show wpAny _ _ (ret Value.none) _ _ _
          refine wpAny_pure ⟨rfl, h3, tk3, rfl, hs3, fun b o hb e => ?_⟩
          refine mv.heap b o ?_ (Heap.get?_push_of_some _ (Heap.get?_push_of_some _ e))
          simp only [List.mem_cons, List.not_mem_nil, or_false, not_or]
          rw [sz1]
          exact ⟨Nat.ne_of_lt hb, Nat.ne_of_lt (Nat.lt_succ_of_lt hb)⟩
      · cases res2 with
        | error e => exact hres2
        | ok fl2 =>
          cases fl2 with
          | ret v =>
            obtain ⟨rfl, h', tk, rfl, hs2, keep⟩ := hres2
            repeat (any_goals (first | assumption | wp_step))
            exact q _ _ hs2 keep
          | _ => exact hres2.elim
    | _ => exact hres.elim
end
end Xg

/-! data of any depth, repr of it; defs that know that no repr runs around them -/
namespace Xg
open PySem PySem.Spec PyProof.Rows L2

/-! ### what a value tells -/
mutual
/-- the value v tells the data d: lists, tuples and empty dicts that are tracked -/
inductive Dt (H : Hp) : V → PyData → Prop
  | non : Dt H .non .none
  | bl (b : Bool) : Dt H (.bl b) (.bool b)
  | int (i : Int) : Dt H (.int i) (.int i)
  | str (x : Str) : Dt H (.str x) (.str x)
  | lst {a : Addr} {xs : List V} {ds : List PyData} : (a == sysModules) = false → H a = some (.lst xs) → Dts H xs ds → Dt H (.ref a) (.list ds)
  | tup {a : Addr} {xs : List V} {ds : List PyData} : H a = some (.tup xs) → Dts H xs ds → Dt H (.ref a) (.tuple ds)
  | emp {a : Addr} : H a = some (.dK []) → Dt H (.ref a) (.dict [])
inductive Dts (H : Hp) : List V → List PyData → Prop
  | nil : Dts H [] []
  | cons {v : V} {vs : List V} {d : PyData} {ds : List PyData} : Dt H v d → Dts H vs ds → Dts H (v :: vs) (d :: ds)
end
/-- H' holds all of H but what stands at m -/
def But (m : Addr) (H H' : Hp) : Prop := ∀ a o, a ≠ m → H a = some o → H' a = some o
theorem But.refl (m : Addr) (H : Hp) : But m H H := fun _ _ _ h => h
theorem But.trans {m : Addr} {H H1 H2 : Hp} (a : But m H H1) (b : But m H1 H2) : But m H H2 := fun x o n h => b x o n (a x o n h)
theorem But.new {m p : Addr} {H : Hp} {o : HO} (h : H p = none) : But m H (upd H p o) := fun a u _ e => by
  rw [upd_ne (ne_of_none e h)]; exact e
theorem But.at_ {m : Addr} {H : Hp} {o : HO} : But m H (upd H m o) := fun a u n e => by
  rw [upd_ne n]; exact e
theorem But.of_same {m : Addr} {H H' : Hp} (h : Same H H') : But m H H' := fun a o _ e => h a o e
/-- at m stands a dict that is not empty -/
def Full (H : Hp) (m : Addr) : Prop := ∃ kv kvs, H m = some (.dK (kv :: kvs))
mutual
theorem Dt.but {m : Addr} {H H' : Hp} (f : Full H m) (e : But m H H') : ∀ {d : PyData} {v : V}, Dt H v d → Dt H' v d
  | _, _, .non => .non
  | _, _, .bl b => .bl b
  | _, _, .int i => .int i
  | _, _, .str x => .str x
  | _, _, .lst l h r => .lst l (e _ _ (fun z => by obtain ⟨kv, kvs, q⟩ := f; rw [z, q] at h; cases h) h) (Dts.but f e r)
  | _, _, .tup h r => .tup (e _ _ (fun z => by obtain ⟨kv, kvs, q⟩ := f; rw [z, q] at h; cases h) h) (Dts.but f e r)
  | _, _, .emp h => .emp (e _ _ (fun z => by obtain ⟨kv, kvs, q⟩ := f; rw [z, q] at h; cases h) h)
theorem Dts.but {m : Addr} {H H' : Hp} (f : Full H m) (e : But m H H') : ∀ {ds : List PyData} {vs : List V}, Dts H vs ds → Dts H' vs ds
  | _, _, .nil => .nil
  | _, _, .cons h r => .cons (Dt.but f e h) (Dts.but f e r)
end
mutual
theorem Dt.same {H H' : Hp} (e : Same H H') : ∀ {d : PyData} {v : V}, Dt H v d → Dt H' v d
  | _, _, .non => .non
  | _, _, .bl b => .bl b
  | _, _, .int i => .int i
  | _, _, .str x => .str x
  | _, _, .lst l h r => .lst l (e _ _ h) (Dts.same e r)
  | _, _, .tup h r => .tup (e _ _ h) (Dts.same e r)
  | _, _, .emp h => .emp (e _ _ h)
theorem Dts.same {H H' : Hp} (e : Same H H') : ∀ {ds : List PyData} {vs : List V}, Dts H vs ds → Dts H' vs ds
  | _, _, .nil => .nil
  | _, _, .cons h r => .cons (Dt.same e h) (Dts.same e r)
end
theorem Dts.length {H : Hp} : ∀ {ds : List PyData} {vs : List V}, Dts H vs ds → vs.length = ds.length
  | _, _, .nil => rfl
  | _, _, .cons _ r => by rw [List.length_cons, List.length_cons, Dts.length r]
theorem Dts.get {H : Hp} : ∀ {ds : List PyData} {vs : List V} {i : Nat} {v : V}, Dts H vs ds → vs[i]? = some v → ∃ d, ds[i]? = some d ∧ Dt H v d
  | _, _, _, _, .nil, e => by simp at e
  | _, _, 0, _, .cons h _, e => by simp at e; subst e; exact ⟨_, rfl, h⟩
  | _, _, i + 1, v, .cons _ r, e => by
    obtain ⟨d, h1, h2⟩ := Dts.get (i := i) (v := v) r (by simpa using e)
    exact ⟨d, by simpa using h1, h2⟩
theorem Dts.append {H : Hp} : ∀ {ds es : List PyData} {vs us : List V}, Dts H vs ds → Dts H us es → Dts H (vs ++ us) (ds ++ es)
  | _, _, _, _, .nil, s => s
  | _, _, _, _, .cons h r, s => .cons h (Dts.append r s)
theorem Dts.take {H : Hp} : ∀ {ds : List PyData} {vs : List V} (n : Nat), Dts H vs ds → Dts H (vs.take n) (ds.take n)
  | _, _, 0, _ => by simp; exact .nil
  | _, _, _ + 1, .nil => by simp; exact .nil
  | _, _, n + 1, .cons h r => by simp; exact .cons h (Dts.take n r)
theorem Dts.drop {H : Hp} : ∀ {ds : List PyData} {vs : List V} (n : Nat), Dts H vs ds → Dts H (vs.drop n) (ds.drop n)
  | _, _, 0, r => by simpa using r
  | _, _, _ + 1, .nil => by simp; exact .nil
  | _, _, n + 1, .cons _ r => by simp; exact Dts.drop n r
theorem Dts.reverse {H : Hp} : ∀ {ds : List PyData} {vs : List V}, Dts H vs ds → Dts H vs.reverse ds.reverse
  | _, _, .nil => .nil
  | _, _, .cons h r => by
    rw [List.reverse_cons, List.reverse_cons]
    exact Dts.append (Dts.reverse r) (.cons h .nil)

section
variable {X : Cx} {pins : List (Addr × Obj)} {σ : L2.St} {H : Hp} {s : Shared}
/-- a tracked dict is not sys.modules; what else is read stands as lists -/
theorem low_of {a : Addr} {o : HO} (I : Inv X pins σ H s) (h : H a = some (.dK [])) : (a == sysModules) = false :=
  (show ObjOk X.prog X.w H s.heap a (.dK []) from I.hok a _ h).2.1
mutual
theorem Dt.reads (I : Inv X pins σ H s) : ∀ (d : PyData) (v : V) (u : Value), Dt H v d → RelV v u →
    ∃ as, Reads s.heap u d as ∧ sysModules ∉ as
  | .none, _, _, h, r => by
    cases h
    cases r
    exact ⟨_, .none, by simp⟩
  | .bool b, _, _, h, r => by
    cases h
    cases r
    exact ⟨_, .bool b, by simp⟩
  | .int i, _, _, h, r => by
    cases h
    obtain ⟨t, rfl⟩ := r
    exact ⟨_, .int i t, by simp⟩
  | .str x, _, _, h, r => by
    cases h
    obtain ⟨t, rfl⟩ := r
    exact ⟨_, .str x t, by simp⟩
  | .list ds, _, _, h, r => by
    cases h with
    | @lst a xs _ lo e rs =>
      cases r
      obtain ⟨_, its, n, rv, eo⟩ := (show ObjOk X.prog X.w H s.heap _ (.lst xs) from I.hok _ _ e)
      obtain ⟨as, hr, no⟩ := Dts.reads I ds _ its rs rv
      refine ⟨_, .list eo rfl rfl (by simpa using hr), ?_⟩
      intro z
      rcases List.mem_cons.mp z with z | z
      · rw [← z] at lo
        simp at lo
      · exact no z
  | .tuple ds, _, _, h, r => by
    cases h with
    | @tup a xs _ e rs =>
      cases r
      obtain ⟨_, its, rv, ob, eo, ec, n, ed⟩ := (show ObjOk X.prog X.w H s.heap _ (.tup xs) from I.hok _ _ e)
      obtain ⟨as, hr, no⟩ := Dts.reads I ds _ its rs rv
      exact ⟨_, .tuple eo ec ed (by simpa using hr), no⟩
  | .dict [], _, _, h, r => by
    cases h with
    | @emp a e =>
      cases r
      obtain ⟨_, lo, vs, kv, ob, es, ep, eo, ex, ed, kk, pr, nd⟩ := (show ObjOk X.prog X.w H s.heap _ (.dK []) from I.hok _ _ e)
      cases kv
      have ee : es.toList = [] := by
        cases hl : es.toList with
        | nil => rfl
        | cons x r =>
          rw [hl] at pr
          cases pr
      refine ⟨_, .dict (as := []) (bs := []) eo ex.1 ed (by rw [ee]; exact .nil) (by rw [ee]; exact .nil), ?_⟩
      intro z
      have z2 : sysModules = a := by simpa using z
      rw [← z2] at lo
      simp at lo
  | .dict (_ :: _), _, _, h, _ => by cases h
theorem Dts.reads (I : Inv X pins σ H s) : ∀ (ds : List PyData) (vs : List V) (us : List Value), Dts H vs ds → Vals vs us →
    ∃ as, ReadsAll s.heap us ds as ∧ sysModules ∉ as
  | [], _, _, h, r => by
    cases h
    cases r
    exact ⟨_, .nil, by simp⟩
  | d :: ds, _, _, h, r => by
    cases h with
    | cons h1 h2 =>
      cases r with
      | cons r1 r2 =>
        obtain ⟨as, q1, n1⟩ := Dt.reads I d _ _ h1 r1
        obtain ⟨bs, q2, n2⟩ := Dts.reads I ds _ _ h2 r2
        exact ⟨_, .cons q1 q2, fun z => (List.mem_append.mp z).elim n1 n2⟩
end
end
end Xg

/-! repr of data; defs that are run where no repr stands around -/
namespace Xg
open PySem PySem.Spec PyProof.Rows L2

/-! ### defs that know that no repr runs -/
structure FnG (P : Program) (w : World) (K : PySem.W.Frag) (mg : Str → Option Value) (base : Heap) (k : Nat) (f : Addr) (fd : FuncData) (ps : List Str) (sp : Sp) : Prop where
  len : ∀ vs H Q E, sp vs H Q E → vs.length = ps.length
  run : ∀ (A : Around) (outer : List Env) (s : Shared) (H : Hp) (args : Args) (us : List Value) (vs : List V) (Q : VK) (E : XK),
    A.guards = some [] → Room k A → Env0 P w K mg base A outer s H → BindsTo s fd args (ps.zip us) → Vals vs us → sp vs H Q E →
    codeAny (model P w) A (.call (.ref f) args) (CR CX0 outer P w H s Q E) s

section
variable {P : Program} {w : World} {K : PySem.W.Frag} {mg : Str → Option Value} {base : Heap}
theorem okG {x qual : Str} {st : Stmt} {f : Addr} {fd : FuncData} {N ps : List Str} {k : Nat} {sp : Sp} (F : Fun K x qual st f fd) (S : FnScope N ps (defScope st))
    (len : ∀ vs H Q E, sp vs H Q E → vs.length = ps.length)
    (body : ∀ (cdv : Value) (A : Around) (outer : List Env) (s : Shared) (H : Hp) (vs : List V) (Q : VK) (E : XK), A.guards = some [] →
      Room k (A.deeper (envOfC qual (defScope st) s.heap.objs.size f cdv)) → sp vs H Q E →
      ∃ t, PSs (cxOf CX0 P w K mg base N qual (defScope st) f cdv A outer s H E).nox (defBody st) t ∧ t { nx := fun _ H' => Q .non H', rt := Q } (start N vs) H) :
    FnG P w K mg base (k + 1) f fd ps sp := by
  obtain ⟨oc, od, kV, doc, pm, an, cdv, ct, osl, rfl, lk, code⟩ := F.ex
  refine ⟨len, fun A outer s H args us vs Q E gd room e0 bind rel prom => ?_⟩
  have grown : ∀ b o, base.get? b = some o → s.heap.get? b = some o := fun b o z => (e0.bs b o z).1
  have KX : K.In s.heap := e0.mod.kin.keeps grown
  have lim : s.heap.NoLimit := e0.mod.nolimit.keeps grown
  have kinds : ∀ y ∈ ps.zip us, (defScope st).names.lookup y.1 = some .local ∨
      ((defScope st).names.lookup y.1 = some .cell ∧ ((cellsFrom (s.heap.objs.size + 1) (defScope st).names []).lookup y.1).isSome = true) := by
    rintro ⟨n, v⟩ hy
    rcases S.par n (List.of_mem_zip hy).1 with q | q
    · exact .inl q
    · exact .inr ⟨q, PySem.W.cellsFrom_some _ _ _ (.inl q)⟩
  refine codeAny_call_function room.depth (KX _ _ lk) rfl S.co S.gen rfl (PySem.W.codeRec_of KX code) (bind _ _ _ _ ?_)
  refine wpAny_newFunctionEnv_cells S.kind kinds fun env henv s1 inc => ?_
  subst henv
  refine ⟨lim.keeps inc.toInCall.keep, codeAny_func ?_⟩
  obtain ⟨t, der, rd⟩ := body cdv A outer s H vs Q E gd (room.deeper _) prom
  have I := inv_start (CX := CX0) (E := E) (cd := cdv) (f := f) (qual := qual) S room.hd e0 (len _ _ _ _ prom) rel inc
  refine wpAny_mono (der.nox.run [] s1 (start N vs) H _ I rd) (fun fl s2 back => ?_) fun e s2 back => back
  cases fl with
  | ret u =>
    obtain ⟨v, σ2, H2, J, rv, q⟩ := back
    exact ⟨v, H2, J.os, J.bare, J.base, J.hok, rv, q⟩
  | next =>
    obtain ⟨σ2, H2, J, q⟩ := back
    exact ⟨.non, H2, J.os, J.bare, J.base, J.hok, rfl, q⟩
  | brk =>
    obtain ⟨_, _, _, q⟩ := back
    exact q.elim
  | cont =>
    obtain ⟨_, _, _, q⟩ := back
    exact q.elim
end

section
variable {X : Cx} {k : Nat} {f : Addr} {fd : FuncData} {ps : List Str} {sp : Sp} {x : Str} {p pos : Pos} {e : Expr} {es : List Expr} {t : TA}
theorem run_g {pins : List (Addr × Obj)} {σ : L2.St} {H : Hp} {s : Shared} {Q : VK} {us : List Value} {vs : List V} (gd : X.A.guards = some [])
    (F : FnG X.prog X.w X.K X.mg X.base k f fd ps sp) (hr : Room k X.A) (hb : Binds X.K fd ps []) (I : Inv X pins σ H s) (r : Vals vs us) (h : sp vs H Q E0) :
    wpAny (model X.prog X.w) X.A (call (.ref f) us) (EP X pins σ Q) X.xe s := by
  have eql : (us ++ []).length = ps.length := by
    rw [List.append_nil, ← r.length]
    exact F.len _ _ _ _ h
  have bt := hb s us I.kIn eql
  rw [List.append_nil] at bt
  refine wpAny_call (codeAny_mono (F.run X.A X.stack s H ⟨us, []⟩ us vs Q E0 gd hr I.env0 bt r h) fun res s' q => ?_)
  cases res with
  | error e => exact (show False from q).elim
  | ok fl =>
    cases fl with
    | ret u => exact I.after q
    | next => exact (show False from q).elim
    | brk => exact (show False from q).elim
    | cont => exact (show False from q).elim
/-- f(..), by the promise alone -/
def tOwn (sp : Sp) (t : TA) : TE := fun σ H Q => t σ H fun vs H1 => sp vs H1 Q E0
theorem pe_callG (gd : X.A.guards = some []) (F : FnG X.prog X.w X.K X.mg X.base k f fd ps sp) (hr : Room k X.A) (hg : Gl X x) (hm : X.mg x = some (.ref f))
    (hk : PySem.W.keepIn X.K (.ref f) = true) (hb : Binds X.K fd ps []) (ha : PA X (e :: es) t) (hdb : (x == ("__debug__" : Str)) = false := by decide)
    (he : starEach (e :: es) X.env = (false, eval e X.env) :: starEach es X.env := by rfl) (hpl : (backTo pos (starEach es X.env)).any (·.1) = false := by rfl) :
    PE X (.Call (.Name x p) (e :: es) [] pos) (tOwn sp t) := by
  refine ⟨fun pins s σ H Q I h => ?_⟩
  refine wpAny_Call_Name_kw (ld_glob I hg hm ?_ hdb)
  refine PySem.W.callWith_K (h₀ := X.base) I.ok.mod.kin hk (thn (ha.run pos pins s σ H _ I h) fun us s1 z => ?_) he hpl
  obtain ⟨vs, H1, I1, r, q⟩ := z
  exact ⟨I1.kIn, run_g gd F hr hb I1 r q⟩
theorem pe_callG0 (gd : X.A.guards = some []) (F : FnG X.prog X.w X.K X.mg X.base k f fd ps sp) (hr : Room k X.A) (hg : Gl X x) (hm : X.mg x = some (.ref f))
    (hk : PySem.W.keepIn X.K (.ref f) = true) (hb : Binds X.K fd ps []) (hdb : (x == ("__debug__" : Str)) = false := by decide) :
    PE X (.Call (.Name x p) [] [] pos) (tOwn sp tNil) := by
  refine ⟨fun pins s σ H Q I h => ?_⟩
  refine wpAny_Call_Name_kw (ld_glob I hg hm ?_ hdb)
  exact PySem.W.callWith_K0 I.kIn hk (run_g (us := []) gd F hr hb I .nil h)
end

/-! ### repr -/
section
variable {X : Cx}
/-- repr(x), x data without a dict, or at an address that sys.modules does not have -/
def rRepr : List V → Hp → VK → Prop := fun xs H Q => ∃ x d, xs = [x] ∧ Dt H x d ∧ d.showable = true ∧ d.depth ≤ 40 ∧ d.shown.length ≤ sizeLine ∧
  Q (.str d.shown) H
theorem call_repr_data (gd : X.A.guards = some []) (hu : X.A.units + 64 < cLine) : CallR X (.builtin "repr") rRepr := by
  intro pins s σ H xs us Q I r h
  obtain ⟨x, d, rfl, dt, sh, dep, sz, q⟩ := h
  obtain ⟨u, rfl, r1⟩ := vals1 r
  obtain ⟨as, rds, no⟩ := Dt.reads I d x u dt r1
  have nsm : d.hasDict = true → sysModules ∉ as := fun _ => no
  cases d with
  | none =>
    cases rds
    exact PySem.P.repr_of_none ⟨.str _, H, I.tok _, ⟨_, rfl⟩, q⟩
  | bool b =>
    cases rds
    exact PySem.P.repr_of_bool ⟨.str _, H, I.tok _, ⟨_, rfl⟩, q⟩
  | int i =>
    cases rds
    exact PySem.P.repr_of_int (by simpa [PyData.showable] using sh) ⟨.str _, H, I.tok _, ⟨_, rfl⟩, q⟩
  | str y =>
    cases rds
    exact PySem.P.repr_of_str ⟨.str _, H, I.tok _, ⟨_, rfl⟩, q⟩ sz
  | list ds =>
    cases rds with
    | list e1 e2 e3 e4 =>
      exact repr_of_reads' (.list e1 e2 e3 e4) sh nsm gd (by omega) (fun _ _ z => z) (fun h' t k hk => ⟨.str _, H, I.kept (t' := k) hk, ⟨t, rfl⟩, q⟩) sz
  | tuple ds =>
    cases rds with
    | tuple e1 e2 e3 e4 =>
      exact repr_of_reads' (.tuple e1 e2 e3 e4) sh nsm gd (by omega) (fun _ _ z => z) (fun h' t k hk => ⟨.str _, H, I.kept (t' := k) hk, ⟨t, rfl⟩, q⟩) sz
  | dict kvs =>
    cases rds with
    | dict e1 e2 e3 e4 e5 =>
      exact repr_of_reads' (.dict e1 e2 e3 e4 e5) sh nsm gd (by omega) (fun _ _ z => z) (fun h' t k hk => ⟨.str _, H, I.kept (t' := k) hk, ⟨t, rfl⟩, q⟩) sz
end
end Xg

/-! further rules by values -/
namespace Xg
open PySem PySem.Spec PyProof.Rows L2

section
variable {X : Cx} {e : Expr} {es : List Expr} {te : TE} {t : TA} {pos : Pos}
theorem neSys {pins : List (Addr × Obj)} {σ : L2.St} {H : Hp} {s : Shared} (I : Inv X pins σ H s) : (s.heap.objs.size == sysModules) = false :=
  beq_eq_false_iff_ne.mpr (Ne.symm (Nat.ne_of_lt I.big))
/-- a list display, told not to be sys.modules -/
def tLstS (t : TA) : TE := fun σ H Q => t σ H fun xs H1 => xs.length ≤ sizeLine ∧ ∀ p, H1 p = none → (p == sysModules) = false → Q (.ref p) (upd H1 p (.lst xs))
theorem pe_lstS (h : PA X es t) : PE X (.List es pos) (tLstS t) := by
  refine ⟨fun pins s σ H Q I q => ?_⟩
  refine wpAny_List_spliced (thn (h.run pos pins s σ H _ I q) fun us s1 z => ?_)
  obtain ⟨xs, H1, I1, r, sm, q1⟩ := z
  refine ⟨by rw [← r.length]; exact sm, ?_⟩
  have fr : H1 s1.heap.objs.size = none := I1.hok.fresh (Nat.le_refl _)
  exact ⟨.ref s1.heap.objs.size, _, I1.laid (t' := s1.toks) (o := .lst xs) (fun b u z => Heap.get?_push_of_some _ z) (Nat.le_refl _) ⟨sm, us, 0, r, Heap.get?_push_size _ rfl⟩, rfl, q1 _ fr (neSys I1)⟩
/-- list(t), t a tuple -/
def rListS (K : PySem.W.Frag) : List V → Hp → VK → Prop := fun xs H Q => ∃ p ys, xs = [.ref p] ∧ SqT K H p ys ∧
  ∀ l, H l = none → (l == sysModules) = false → Q (.ref l) (upd H l (.lst ys))
theorem call_listS : CallR X (.type "list") (rListS X.K) := by
  intro pins s σ H xs us Q I r h
  obtain ⟨p, ys, rfl, tup, q⟩ := h
  obtain ⟨u, rfl, rx⟩ := vals1 r
  cases rx
  obtain ⟨its, rv, pl, sm⟩ := I.tuple tup
  have len := rv.length
  obtain ⟨o, eo, ec, n, ed⟩ := pl
  refine call_list_seq p (.inr rfl) eo ec ed (fun h' c' kp z => ?_) (by simp only [List.size_toArray]; omega)
  exact ⟨.ref s.heap.objs.size, _, I.laid (t' := s.toks) kp (Nat.le_refl _) (show ObjOk X.prog X.w _ h' _ (.lst ys) from ⟨sm, its, c', rv, z⟩), rfl, q _ (I.hok.fresh (Nat.le_refl _)) (neSys I)⟩
end

/-! ### x * n of texts -/
section
variable {X : Cx}
def times (x : Str) (n : Nat) : Str := SX.S (List.replicate n x.cps.toList).flatten
theorem fold_times (a : Array Nat) (n : Nat) : ∀ b : Array Nat, (List.replicate n a).foldl (· ++ ·) b = b ++ (List.replicate n a.toList).flatten.toArray := by
  induction n with
  | zero => intro b; simp
  | succ n ih =>
    intro b
    rw [List.replicate_succ, List.foldl_cons, ih, List.replicate_succ, List.flatten_cons]
    apply Array.toList_inj.mp
    simp
theorem times_len (x : Str) (n : Nat) : (times x n).length = n * x.length := by
  unfold times
  rw [SX.S_len]
  simp [Str.length]
theorem mul_times (x : Str) (n : Nat) : Txt.mul x (n : Int) = times x n := by
  unfold Txt.mul
  by_cases h1 : (n : Int) < 1
  · have : n = 0 := by omega
    subst this
    rw [if_pos h1]; rfl
  · rw [if_neg h1]
    split
    · rename_i h2
      rcases (Bool.or_eq_true _ _).mp h2 with h2 | h2
      · have : n = 1 := by
          have := beq_iff_eq.mp h2
          omega
        subst this
        unfold times SX.S
        simp
      · have e : x.cps = #[] := by
          have z : x.cps.size = 0 := beq_iff_eq.mp h2
          exact Array.eq_empty_of_size_eq_zero z
        unfold times SX.S
        obtain ⟨c⟩ := x
        simp only at e
        subst e
        simp
    · unfold times SX.S
      rw [Int.toNat_natCast, fold_times]
      simp
def rMulS : R2 := fun x y H Q => ∃ (z : Str) (n : Nat), x = .str z ∧ y = .int (n : Int) ∧ n * z.length ≤ 1000000 ∧ n ≤ 1000000 ∧ z.length ≤ 1000000 ∧ Q (.str (times z n)) H
theorem op_mulS : OpR X (binaryOp .Mult) rMulS := by
  intro pins s σ H x y v u Q I rx ry h
  obtain ⟨z, n, rfl, rfl, b, b1, b2, q⟩ := h
  obtain ⟨t, rfl⟩ := rx
  obtain ⟨k, rfl⟩ := ry
  refine SB.mul ⟨?_, fun h1 _ h3 => ?_, fun _ _ => ?_⟩ fun t' tk => ?_
  · rw [decide_eq_false (by omega), decide_eq_false (by omega)]; rfl
  · have np : (0 : Int) < (n : Int) := by omega
    have q3 : (2 ^ 63 - 1) / (n : Int) < (z.length : Int) := h3
    have q4 := (Int.ediv_lt_iff_lt_mul np).mp q3
    have q5 : ((n * z.length : Nat) : Int) = (z.length : Int) * (n : Int) := by rw [Nat.mul_comm]; simp
    have q6 : ((n * z.length : Nat) : Int) ≤ ((1000000 : Nat) : Int) := Int.ofNat_le.mpr b
    omega
  · rw [Int.toNat_natCast, Nat.mul_comm]
    exact PyProof.Rows.short24 (by omega)
  · rw [mul_times]
    exact ⟨.str _, H, I.tok tk, ⟨t', rfl⟩, q⟩

/-! ### x == (), x != () -/
def rEq0 (K : PySem.W.Frag) : R2 := fun x y H Q => ∃ a b xs, x = .ref a ∧ y = .ref b ∧ SqT K H a xs ∧ SqT K H b [] ∧ Q (.bl xs.isEmpty) H
def rNe0 (K : PySem.W.Frag) : R2 := fun x y H Q => ∃ a b xs, x = .ref a ∧ y = .ref b ∧ SqT K H a xs ∧ SqT K H b [] ∧ Q (.bl (!xs.isEmpty)) H
theorem empty_is {us : List Value} {xs : List V} (r : Vals xs us) : (us.toArray.size == ([] : List Value).toArray.size) = xs.isEmpty := by
  cases r <;> rfl
theorem op_eq0 (hu : X.A.units < cLine) : OpR X (compareOp .Eq) (rEq0 X.K) := by
  intro pins s σ H x y v u Q I rx ry h
  obtain ⟨a, b, xs, rfl, rfl, ta, tb, q⟩ := h
  cases rx
  cases ry
  obtain ⟨its, r1, p1, _⟩ := I.tuple ta
  obtain ⟨its2, r2, p2, _⟩ := I.tuple tb
  cases r2
  refine SeqAt.eq_tupleAt (e := fun _ => true) p1 p2 hu (fun j _ h2 => absurd h2 (Nat.not_lt_zero _)) ⟨.bl xs.isEmpty, H, I, ?_, q⟩
  rw [empty_is r1]
  show Value.bool _ = Value.bool _
  rw [show min its.toArray.size ([] : List Value).toArray.size = 0 from Nat.min_zero _]
  rfl
theorem op_ne0 (hu : X.A.units < cLine) : OpR X (compareOp .NotEq) (rNe0 X.K) := by
  intro pins s σ H x y v u Q I rx ry h
  obtain ⟨a, b, xs, rfl, rfl, ta, tb, q⟩ := h
  cases rx
  cases ry
  obtain ⟨its, r1, p1, _⟩ := I.tuple ta
  obtain ⟨its2, r2, p2, _⟩ := I.tuple tb
  cases r2
  refine SeqAt.RcNeAt.tuples (e := fun _ => true) p1 p2 hu (fun j _ h2 => absurd h2 (Nat.not_lt_zero _)) _ _ _ _ ⟨.bl (!xs.isEmpty), H, I, ?_, q⟩
  rw [empty_is r1]
  show Value.bool _ = Value.bool _
  rw [show min its.toArray.size ([] : List Value).toArray.size = 0 from Nat.min_zero _]
  rfl

def rEqL0 (K : PySem.W.Frag) : R2 := fun x y H Q => ∃ a b xs, x = .ref a ∧ y = .ref b ∧ SqL K H a xs ∧ SqL K H b [] ∧ Q (.bl xs.isEmpty) H
def rNeL0 (K : PySem.W.Frag) : R2 := fun x y H Q => ∃ a b xs, x = .ref a ∧ y = .ref b ∧ SqL K H a xs ∧ SqL K H b [] ∧ Q (.bl (!xs.isEmpty)) H
theorem op_eqL0 (hu : X.A.units < cLine) : OpR X (compareOp .Eq) (rEqL0 X.K) := by
  intro pins s σ H x y v u Q I rx ry h
  obtain ⟨a, b, xs, rfl, rfl, ta, tb, q⟩ := h
  cases rx
  cases ry
  obtain ⟨its, r1, p1, _⟩ := I.list ta
  obtain ⟨its2, r2, p2, _⟩ := I.list tb
  cases r2
  cases r1 with
  | nil => exact SeqAt.eq_listAt (e := fun _ => true) p1.isList p2.isList rfl hu (fun j _ h2 => absurd h2 (Nat.not_lt_zero _)) ⟨.bl true, H, I, rfl, q⟩
  | cons r rs => exact SeqAt.eq_list_lengthsAt p1.isList p2.isList (by simp) hu ⟨.bl false, H, I, rfl, q⟩
theorem op_neL0 (hu : X.A.units < cLine) : OpR X (compareOp .NotEq) (rNeL0 X.K) := by
  intro pins s σ H x y v u Q I rx ry h
  obtain ⟨a, b, xs, rfl, rfl, ta, tb, q⟩ := h
  cases rx
  cases ry
  obtain ⟨its, r1, p1, _⟩ := I.list ta
  obtain ⟨its2, r2, p2, _⟩ := I.list tb
  cases r2
  cases r1 with
  | nil => exact SeqAt.RcNeAt.lists (e := fun _ => true) p1.isList p2.isList rfl hu (fun j _ h2 => absurd h2 (Nat.not_lt_zero _)) _ _ _ _ ⟨.bl false, H, I, rfl, q⟩
  | cons r rs => exact SeqAt.RcNeAt.lists_lengths p1.isList p2.isList (by simp) hu _ _ _ _ ⟨.bl true, H, I, rfl, q⟩

/-! ### t[::-1] of a tuple -/
def tRevT (K : PySem.W.Frag) (te : TE) : TE := fun σ H Q => te σ H fun x H1 => ∃ a xs, x = .ref a ∧ SqT K H1 a xs ∧ ∀ p, H1 p = none → Q (.ref p) (upd H1 p (.tup xs.reverse))
end
section
variable {P : Program} {w : World} {A : Around} {E : Value → Shared → Prop} {s : Shared}
theorem back_places (n : Nat) : Builtin.Slice.slicePlaces ((n : Int) - 1) (-1) (-1) = n := by
  unfold Builtin.Slice.slicePlaces
  rw [if_neg (by omega)]
  split
  · have : -(-1 : Int) = 1 := rfl
    rw [this, Int.ediv_one]
    omega
  · omega
theorem back_picks (xs : Array Value) : (List.range xs.size).filterMap (fun (k : Nat) => xs[(((xs.size : Nat) : Int) - 1 + (k : Int) * -1).toNat]?) = xs.toList.reverse := by
  apply List.ext_getElem?
  intro i
  by_cases h : i < xs.size
  · have all : ∀ k ∈ List.range xs.size, ∃ v, xs[(((xs.size : Nat) : Int) - 1 + (k : Int) * -1).toNat]? = some v := fun k hk => by
      have hk' := List.mem_range.mp hk
      exact ⟨_, Array.getElem?_eq_getElem (by omega)⟩
    have e : (List.range xs.size).filterMap (fun (k : Nat) => xs[(((xs.size : Nat) : Int) - 1 + (k : Int) * -1).toNat]?) =
        (List.range xs.size).map (fun (k : Nat) => xs.getD (((xs.size : Nat) : Int) - 1 + (k : Int) * -1).toNat .none) := by
      generalize List.range xs.size = l at all
      induction l with
      | nil => rfl
      | cons k l ih =>
        obtain ⟨v, ev⟩ := all k List.mem_cons_self
        rw [List.filterMap_cons, ev, List.map_cons, ih fun k hk => all k (List.mem_cons_of_mem _ hk)]
        rw [Array.getD_eq_getD_getElem?, ev]
        rfl
    rw [e, List.getElem?_map, List.getElem?_range h]
    simp only [Option.map_some]
    rw [List.getElem?_reverse (by simpa using h), Array.length_toList, Array.getElem?_toList]
    have ei : (((xs.size : Nat) : Int) - 1 + (i : Int) * -1).toNat = xs.size - 1 - i := by omega
    rw [ei, Array.getD_eq_getD_getElem?, Array.getElem?_eq_getElem (by omega)]
    rfl
  · have n1 : xs.toList.reverse[i]? = none := List.getElem?_eq_none (by rw [List.length_reverse, Array.length_toList]; omega)
    have few := List.length_filterMap_le (fun (k : Nat) => xs[(((xs.size : Nat) : Int) - 1 + (k : Int) * -1).toNat]?) (List.range xs.size)
    rw [List.length_range] at few
    rw [n1, List.getElem?_eq_none (by omega)]
theorem getItem_back {t sl : Addr} {items : Array Value} {k : Tok} {Q : Value → Shared → Prop} (tup : IsTup s.heap t items) (hs : s.heap.IsSliceOf sl .none .none (.int (-1) k))
    (h : Q (.ref s.heap.objs.size) { s with heap := s.heap.push { cls := .type "tuple", data := .seq items.toList.reverse.toArray } })
    (hsz : items.size ≤ sizeLine) : wpAny (model P w) A (getItem (.ref t) (.ref sl)) Q E s := by
  obtain ⟨os, eo, ec, ed⟩ := id hs
  have ty : s.TypeIs (.ref sl) "slice" := ⟨os, eo, ec⟩
  unfold getItem
  try with_reducible refine wpAny_holding ?_
  first | refine wpAny_bind (wpAny_pure ?_) | skip
  refine wpAny_bind (wpAny_sequenceKey tup.typeIs (by decide) ?_)
  refine wpAny_bind (wpAny_callSpecial?_slot (name := Str.ofString "__getitem__") tup.typeIs PyProof.Rows.slot_tuple_getitem
    (wpAny_call_entry PyProof.Rows.slot_tuple_getitem tup.typeIs entry_tuple_getitem ?_ (args_tuple_getitem _ _)))
  show wpAny _ _ (Builtin.Tuple.tupleItemsOf (.ref t) >>= _) _ _ s
  refine wpAny_bind (tupleItemsOf_ tup ?_)
  refine wpAny_bind (wpAny_typeOf ty ?_)
  rw [if_pos (by decide)]
  have app : ∀ {Q2 : Int × Int × Nat → Shared → Prop}, Q2 ((items.size : Int) - 1, -1, items.size) s →
      ∀ {E2 : Value → Shared → Prop} {A2 : Around}, wpAny (model P w) A2 (Builtin.Slice.sliceApplied (.ref sl) (pure (items.size : Int))) Q2 E2 s := by
    intro Q2 q2 E2 A2
    unfold Builtin.Slice.sliceApplied Builtin.Slice.sliceFields
    refine wpAny_bind (wpAny_bind (wpAny_field eo ed (x := .none) rfl (wpAny_bind (wpAny_field eo ed (x := .none) rfl (wpAny_bind (wpAny_field eo ed (x := .int (-1) k) rfl (wpAny_pure ?_)))))))
    refine wpAny_bind (HT.slicePart_ (.int (-1) k) ?_)
    show wpAny _ _ (if ((-1 : Int) == 0) = true then _ else _) _ _ s
    rw [if_neg (by decide)]
    refine wpAny_bind (HT.slicePart_ .none (wpAny_bind (HT.slicePart_ .none (wpAny_bind (wpAny_pure ?_)))))
    show wpAny _ _ (match Builtin.Slice.sliceAdjust none none (-1) (items.size : Int) with | (lo, hi) => pure (lo, (-1 : Int), Builtin.Slice.slicePlaces lo hi (-1))) _ _ s
    show wpAny _ _ (pure ((items.size : Int) - 1, (-1 : Int), Builtin.Slice.slicePlaces ((items.size : Int) - 1) (-1) (-1))) _ _ s
    rw [back_places]
    exact wpAny_pure q2
  refine wpAny_bind (app ?_)
  have no : ¬ ((((items.size : Int) - 1) == 0 && (-1 : Int) == 1 && items.size == items.size) = true) := by
    intro q
    rw [Bool.and_eq_true, Bool.and_eq_true] at q
    exact absurd q.1.2 (by decide)
  show wpAny _ _ (if (((items.size : Int) - 1) == 0 && (-1 : Int) == 1 && items.size == items.size) = true then _ else _) _ _ s
  rw [if_neg no, back_picks]
  have fits : sizeOk (.seq items.toList.reverse.toArray) := by
    show items.toList.reverse.toArray.size ≤ sizeLine
    rw [List.size_toArray, List.length_reverse, Array.length_toList]
    exact hsz
  first
    | exact wpAny_bind (m := Builtin.Tuple.tupleExact _) (wpAny_newObj_type (wpAny_pure ⟨_, rfl, wpAny_pure h⟩) fits)
    | exact wpAny_bind (m := Builtin.Tuple.tupleExact _) (wpAny_newObj_type (wpAny_bind (wpAny_pure (wpAny_pure ⟨_, rfl, wpAny_pure h⟩))) fits)
    | exact wpAny_bind (wpAny_bind (m := Builtin.Tuple.tupleExact _) (wpAny_newObj_type (wpAny_pure (wpAny_pure ⟨_, rfl, wpAny_pure h⟩)) fits))
    | exact wpAny_bind (wpAny_bind (m := Builtin.Tuple.tupleExact _) (wpAny_newObj_type (wpAny_pure ⟨_, rfl, wpAny_pure h⟩) fits))
end
section
variable {X : Cx}
theorem pe_revT {e : Expr} {te : TE} {k : Nat} {p1 p2 p3 pos : Pos} (he : PE X e te) :
    PE X (.Subscript e (.Slice none none (some (.UnaryOp .USub (.Constant (.int 1) k p1) p2)) p3) pos) (tRevT X.K te) := by
  refine ⟨fun pins s σ H Q I h => ?_⟩
  refine Subscript_ (thn (he.run pins s σ H _ I h) fun v s1 z => ?_)
  obtain ⟨x, H1, I1, r1, a, xs, ex, tup, q⟩ := z
  subst ex
  cases r1
  have minus : PO X (some (.UnaryOp .USub (.Constant (.int 1) k p1) p2)) (tPart (tUn (rU fun i => .int (-i)) (tC (.int 1)))) := po_some (pe_un un_neg pe_int)
  refine wpAny_Slice (thn (po_none.run pins s1 σ H1 (fun o H2 => o = none ∧ H2 = H1) I1 ⟨rfl, rfl⟩) fun vl s2 z => ?_)
  obtain ⟨l, H2, I2, pl, el, e2⟩ := z
  subst el e2
  refine thn (po_none.run pins s2 σ H2 (fun o H3 => o = none ∧ H3 = H2) I2 ⟨rfl, rfl⟩) fun vu s3 z => ?_
  obtain ⟨u, H3, I3, pu, eu, e3⟩ := z
  subst eu e3
  refine thn (minus.run pins s3 σ H3 (fun o H4 => o = some (-1) ∧ H4 = H3) I3 ⟨1, rfl, -1, rfl, rfl, rfl⟩) fun vs s4 z => ?_
  obtain ⟨o, H4, I4, ps, eo, e4⟩ := z
  subst eo e4
  cases pl
  cases pu
  cases ps with
  | int i tk =>
    have I5 : Inv X pins σ H4 { s4 with heap := s4.heap.push { cls := .type "slice", data := .fields #[.none, .none, .int (-1) tk] } } :=
      I4.kept (t' := s4.toks) fun b ob q => Heap.get?_push_of_some _ q
    obtain ⟨its, r, ht, hz⟩ := I5.tuple tup
    have hlen := r.length
    show wpAny (model X.prog X.w) X.A (subscriptTail e (.Slice none none (some (.UnaryOp .USub (.Constant (.int 1) k p1) p2)) p3) (.ref a) (.ref s4.heap.objs.size)) (EP X pins σ Q) X.xe
      { s4 with heap := s4.heap.push { cls := .type "slice", data := .fields #[.none, .none, .int (-1) tk] } }
    refine tail_any (ops := [.ref a, .ref s4.heap.objs.size]) ht.typeIs (PyProof.Rows.slot_tuple_getitem.lookup) ?_ (by with_unfolding_all rfl)
    refine getItem_back ht (Heap.IsSliceOf.new _ .none .none (.int (-1) tk)) ?_ (by rw [List.size_toArray]; omega)
    refine ⟨.ref _, _, I5.laid (t' := s4.toks) (o := .tup xs.reverse) (fun b ob q => Heap.get?_push_of_some _ q) (Nat.le_refl _) ?_, rfl, q _ (I5.hok.fresh (Nat.le_refl _))⟩
    exact ⟨by rw [List.length_reverse]; exact hz, _, by simpa using r.reverse, IsTup.new _ _⟩
end

/-! ### len(set(t)), t a tuple of texts -/
section
variable {X : Cx}
def tLenSetT (K : PySem.W.Frag) (ta : TE) : TE := fun σ H Q => ta σ H fun x H1 => ∃ (l : Addr) (xs : List Str), x = .ref l ∧ SqT K H1 l (xs.map V.str) ∧ xs.length ≤ 4000 ∧ Q (.int (once xs).length) H1
theorem pe_lenSetT {a : Expr} {ta : TE} {p p2 q pos : Pos} (hc : X.calm = true) (hg : Gl X "len") (hm : X.mg "len" = none) (hg2 : Gl X "set") (hm2 : X.mg "set" = none) (ha : PE X a ta)
    (na : starEach [a] X.env = (false, eval a X.env) :: starEach [] X.env := by rfl) : PE X (.Call (.Name "len" p) [.Call (.Name "set" p2) [a] [] q] [] pos) (tLenSetT X.K ta) := by
  refine ⟨fun pins s σ H Q I h => ?_⟩
  refine Call_ (ld_blt I hg hm boot_len ?_)
  refine PyProof.Rows.callWith_builtin1 (PyProof.Rows.args_cons ?_ rfl) rfl rfl
  refine Call_ (ld_blt I hg2 hm2 boot_set ?_)
  refine PyProof.Rows.callWith_type1 (PyProof.Rows.args_cons (thn (ha.run pins s σ H _ I h) fun v s1 z => ?_) na) na rfl
  obtain ⟨x, H1, I1, r1, l, xs, rfl, tup, short, q1⟩ := z
  cases r1
  refine PyProof.Rows.args_nil ?_
  obtain ⟨its, r, pl, hz⟩ := I1.tuple tup
  have len := r.length
  rw [List.length_map] at len
  refine set_of_tuple (I1.ok.hd hc) pl (by simpa using r) (by rw [List.size_toArray]; unfold scanBound; omega) fun h' tk hS keep => ?_
  refine PyProof.Rows.args_nil ?_
  have I2 : Inv X pins σ H1 { s1 with heap := h', toks := tk } := I1.kept fun b o e => keep b o (Heap.lt_size e) e
  have few : (once xs).length ≤ xs.length := by
    have := tops_len xs xs.length
    unfold tops at this
    rwa [List.take_length] at this
  obtain ⟨o, es, ep, t, ho, hex, hd, _, _, _, hf, hn⟩ := hS
  exact call_len_set ho hex hd hf (by rw [hn]; omega) ⟨.int (once xs).length, H1, I2.tok _, ⟨_, by rw [hn]⟩, q1⟩
end

/-! ### text.translate({10: 32, 37: 10}) -/
/-- what becomes of a sign -/
def trSign (c : Nat) : Nat := if c = 10 then 32 else if c = 37 then 10 else c
def trDict : List (Key × V) := [(.inl 10, .int 32), (.inl 37, .int 10)]
def trText (x : Str) : Str := SX.S (x.cps.toList.map trSign)
section
variable {X : Cx}
theorem mt_tr (hc : X.calm = true) : MtR X "str.translate" (fun x xs H Q => ∃ (z : Str) (d : Addr), x = .str z ∧ xs = [.ref d] ∧ H d = some (.dK trDict) ∧ z.length ≤ 16000000 ∧ Q (.str (trText z)) H) := by
  intro pins s σ H x xs v us Q I rx rs h
  obtain ⟨z, d, rfl, rfl, hd, hz, q⟩ := h
  obtain ⟨t, rfl⟩ := rx
  obtain ⟨u, rfl, r1⟩ := vals1 rs
  cases r1
  obtain ⟨_, low, vs, kv, dd⟩ := (show ObjOk X.prog X.w H s.heap d (.dK trDict) from I.hok _ _ hd)
  obtain ⟨l⟩ := z
  obtain ⟨l⟩ := l
  have mp : Maps (valueAt vs) trSign := by
    cases kv with
    | cons a1 kv =>
      cases kv with
      | cons a2 kv =>
        cases kv
        rename_i q1 q2
        obtain ⟨k1, w1⟩ := q1
        obtain ⟨k2, w2⟩ := q2
        obtain ⟨rfl, t1, rfl⟩ := a1
        obtain ⟨rfl, t2, rfl⟩ := a2
        intro c
        by_cases e1 : c = 10
        · subst e1
          exact Or.inl ⟨t1, by decide, by rfl⟩
        · by_cases e2 : c = 37
          · subst e2
            exact Or.inl ⟨t2, by decide, by rfl⟩
          · refine Or.inr ⟨by unfold trSign; rw [if_neg e1, if_neg e2], ?_⟩
            have n1 : ¬ ((10 : Int) = (c : Int)) := by omega
            have n2 : ¬ ((37 : Int) = (c : Int)) := by omega
            simp [valueAt, n1, n2]
  refine call_meetsIn F.slot_str_translate (typeIs_str _ _ _) F.entry_str_translate (F.args_str_translate_2 _ _) (meets_tr (g := trSign) l t low (by simpa [Str.length] using hz)) ⟨I.ok.hd hc, ⟨_, dd.mapOf, mp⟩, ?_⟩
  rintro v h' k hk ⟨t', rfl⟩
  exact ⟨.str _, H, I.kept (t' := k) hk, ⟨t', rfl⟩, q⟩
/-- the signs of a text -/
def okSign (c : Nat) : Bool := c == 10 || (decide (32 ≤ c) && decide (c ≤ 126) && c != 37)
def okText (x : Str) : Bool := x.cps.toList.all okSign
theorem tr_sign_ok (c : Nat) : (decide (trSign c < 128) && Unicode.isPrintable (trSign c)) = okSign c := by
  have small : ∀ c : Fin 128, (decide (trSign c.val < 128) && Unicode.isPrintable (trSign c.val)) = okSign c.val := by decide +kernel
  by_cases h : c < 128
  · exact small ⟨c, h⟩
  · have e : trSign c = c := by unfold trSign; rw [if_neg (by omega), if_neg (by omega)]
    rw [e, decide_eq_false h, Bool.false_and]
    unfold okSign
    have h1 : (c == 10) = false := beq_eq_false_iff_ne.mpr (by omega)
    have h2 : decide (c ≤ 126) = false := decide_eq_false (by omega)
    rw [h1, h2, Bool.and_false, Bool.false_and, Bool.or_false]
theorem tr_ok (x : Str) : (Txt.isascii (trText x) && Txt.isprintable (trText x)) = okText x := by
  obtain ⟨l⟩ := x
  obtain ⟨l⟩ := l
  show ((l.map trSign).toArray.all _ && (l.map trSign).toArray.all _) = l.all okSign
  rw [List.all_toArray, List.all_toArray, List.all_map, List.all_map]
  induction l with
  | nil => rfl
  | cons c l ih =>
    rw [List.all_cons, List.all_cons, List.all_cons, ← ih, ← tr_sign_ok c]
    simp only [Function.comp]
    cases decide (trSign c < 128) <;> cases Unicode.isPrintable (trSign c) <;> simp
end
end Xg

/-! a program's defs by their names; rules for operators over all the kinds of values that we meet -/
namespace Xg
open PySem PySem.Spec PyProof.Rows L2

/-- the def st stands under its name -/
structure FunAt (K : PySem.W.Frag) (mg : Str → Option Value) (nm : Str) (st : Stmt) (ps : List Str) : Prop where
  ex : ∃ f fd, Fun K nm nm st f fd ∧ mg nm = some (.ref f) ∧ Binds K fd ps []
/-- what stands under the name keeps the promise -/
structure Has (P : Program) (w : World) (K : PySem.W.Frag) (mg : Str → Option Value) (base : Heap) (nm : Str) (k : Nat) (ps : List Str) (sp : Sp) : Prop where
  ex : ∃ f fd, FnOk P w K mg base CX0 k f fd ps sp ∧ mg nm = some (.ref f) ∧ PySem.W.keepIn K (.ref f) = true ∧ Binds K fd ps []
structure HasG (P : Program) (w : World) (K : PySem.W.Frag) (mg : Str → Option Value) (base : Heap) (nm : Str) (k : Nat) (ps : List Str) (sp : Sp) : Prop where
  ex : ∃ f fd, FnG P w K mg base k f fd ps sp ∧ mg nm = some (.ref f) ∧ PySem.W.keepIn K (.ref f) = true ∧ Binds K fd ps []

/-- the context of a def's body -/
abbrev bodyCx (P : Program) (w : World) (K : PySem.W.Frag) (mg : Str → Option Value) (base : Heap) (N : List Str) (nm : Str) (st : Stmt) (f : Addr) (cdv : Value) (A : Around)
    (outer : List Env) (s : Shared) (H : Hp) (E : XK) : Cx := (cxOf CX0 P w K mg base N nm (defScope st) f cdv A outer s H E).nox
section
variable {P : Program} {w : World} {K : PySem.W.Frag} {mg : Str → Option Value} {base : Heap} {nm : Str} {k : Nat} {ps N : List Str} {sp : Sp} {st : Stmt}
theorem Has.mk' (F : FunAt K mg nm st ps) (S : FnScope N ps (defScope st)) (len : ∀ vs H Q E, sp vs H Q E → vs.length = ps.length)
    (body : ∀ (f : Addr) (cdv : Value) (A : Around) (outer : List Env) (s : Shared) (H : Hp) (vs : List V) (Q : VK) (E : XK),
      Room k (A.deeper (envOfC nm (defScope st) s.heap.objs.size f cdv)) → sp vs H Q E →
      ∃ t, PSs (bodyCx P w K mg base N nm st f cdv A outer s H E) (defBody st) t ∧ t { nx := fun _ H' => Q .non H', rt := Q } (start N vs) H) :
    Has P w K mg base nm (k + 1) ps sp := by
  obtain ⟨f, fd, F1, m, b⟩ := F.ex
  exact ⟨f, fd, F1.ok S len fun cdv A outer s H vs Q E hr h => body f cdv A outer s H vs Q E hr h, m, F1.kp, b⟩
theorem HasG.mk' (F : FunAt K mg nm st ps) (S : FnScope N ps (defScope st)) (len : ∀ vs H Q E, sp vs H Q E → vs.length = ps.length)
    (body : ∀ (f : Addr) (cdv : Value) (A : Around) (outer : List Env) (s : Shared) (H : Hp) (vs : List V) (Q : VK) (E : XK), A.guards = some [] →
      Room k (A.deeper (envOfC nm (defScope st) s.heap.objs.size f cdv)) → sp vs H Q E →
      ∃ t, PSs (bodyCx P w K mg base N nm st f cdv A outer s H E) (defBody st) t ∧ t { nx := fun _ H' => Q .non H', rt := Q } (start N vs) H) :
    HasG P w K mg base nm (k + 1) ps sp := by
  obtain ⟨f, fd, F1, m, b⟩ := F.ex
  exact ⟨f, fd, okG F1 S len fun cdv A outer s H vs Q E gd hr h => body f cdv A outer s H vs Q E gd hr h, m, F1.kp, b⟩
theorem Has.mono {j : Nat} (h : Has P w K mg base nm j ps sp) (le : j ≤ k) : Has P w K mg base nm k ps sp :=
  let ⟨f, fd, F, r⟩ := h.ex
  ⟨f, fd, F.mono le, r⟩
theorem Has.imp {sp' : Sp} (h : Has P w K mg base nm k ps sp) (i : ∀ vs H Q E, sp' vs H Q E → sp vs H Q E) : Has P w K mg base nm k ps sp' :=
  let ⟨f, fd, F, r⟩ := h.ex
  ⟨f, fd, F.imp i, r⟩
end
section
variable {X : Cx} {nm : Str} {k : Nat} {ps : List Str} {sp : Sp} {p pos : Pos} {e : Expr} {es : List Expr} {t : TA}
theorem pe_own (D : Has X.prog X.w X.K X.mg X.base nm k ps sp) (hr : Room k X.A) (hg : Gl X nm) (ha : PA X (e :: es) t) (hdb : (nm == ("__debug__" : Str)) = false := by decide)
    (he : starEach (e :: es) X.env = (false, eval e X.env) :: starEach es X.env := by rfl) (hpl : (backTo pos (starEach es X.env)).any (·.1) = false := by rfl) :
    PE X (.Call (.Name nm p) (e :: es) [] pos) (tOwn sp t) := by
  obtain ⟨f, fd, F, m, kp, b⟩ := D.ex
  have z := pe_call (p := p) F hr hg m kp b .nil pass0 ha hdb he hpl
  refine ⟨fun pins s σ H Q I h => z.run pins s σ H Q I ?_⟩
  have h1 : t σ H fun vs H1 => sp vs H1 Q E0 := h
  show t σ H fun vs H1 => sp (vs ++ []) H1 Q E0
  simpa only [List.append_nil] using h1
theorem pe_own0 (D : Has X.prog X.w X.K X.mg X.base nm k ps sp) (hr : Room k X.A) (hg : Gl X nm) (hdb : (nm == ("__debug__" : Str)) = false := by decide) :
    PE X (.Call (.Name nm p) [] [] pos) (tOwn sp tNil) := by
  obtain ⟨f, fd, F, m, kp, b⟩ := D.ex
  have z := pe_call0 (p := p) (pos := pos) F hr hg m kp b .nil pass0 hdb
  exact ⟨fun pins s σ H Q I h => z.run pins s σ H Q I h⟩
theorem pe_ownG (gd : X.A.guards = some []) (D : HasG X.prog X.w X.K X.mg X.base nm k ps sp) (hr : Room k X.A) (hg : Gl X nm) (ha : PA X (e :: es) t) (hdb : (nm == ("__debug__" : Str)) = false := by decide)
    (he : starEach (e :: es) X.env = (false, eval e X.env) :: starEach es X.env := by rfl) (hpl : (backTo pos (starEach es X.env)).any (·.1) = false := by rfl) :
    PE X (.Call (.Name nm p) (e :: es) [] pos) (tOwn sp t) := by
  obtain ⟨f, fd, F, m, kp, b⟩ := D.ex
  exact pe_callG gd F hr hg m kp b ha hdb he hpl
theorem pe_ownG0 (gd : X.A.guards = some []) (D : HasG X.prog X.w X.K X.mg X.base nm k ps sp) (hr : Room k X.A) (hg : Gl X nm) (hdb : (nm == ("__debug__" : Str)) = false := by decide) :
    PE X (.Call (.Name nm p) [] [] pos) (tOwn sp tNil) := by
  obtain ⟨f, fd, F, m, kp, b⟩ := D.ex
  exact pe_callG0 gd F hr hg m kp b hdb
end

/-! ### a < b <= c < d -/
section
variable {X : Cx} {a b c d : Expr} {ta tb tc td : TE} {pos : Pos}
def tChain3 (r r' r'' : R2) (ta tb tc td : TE) : TE := fun σ H Q => ta σ H fun x H1 => tb σ H1 fun y H2 => r x y H2 fun z H3 => ∃ k, z = .bl k ∧
  (if k = true then tc σ H3 fun x2 H4 => r' y x2 H4 fun z2 H5 => ∃ k2, z2 = .bl k2 ∧ (if k2 = true then td σ H5 fun x3 H6 => r'' x2 x3 H6 Q else Q (.bl false) H5) else Q (.bl false) H3)
theorem pe_chain3 {op op' op'' : CmpOp} {r r' r'' : R2} (ho : OpR X (compareOp op) r) (ho' : OpR X (compareOp op') r') (ho'' : OpR X (compareOp op'') r'')
    (ha : PE X a ta) (hb : PE X b tb) (hc : PE X c tc) (hd : PE X d td)
    (hm : lastMarks [op, op', op''] [b, c, d] = false := by with_unfolding_all rfl) : PE X (.Compare a [op, op', op''] [b, c, d] pos) (tChain3 r r' r'' ta tb tc td) := by
  refine ⟨fun pins s σ H Q I h => ?_⟩
  refine Compare_chain (thn (ha.run pins s σ H _ I h) fun v s1 z1 => ?_) hm
  obtain ⟨x, H1, I1, r1, q1⟩ := z1
  refine chain_link (thn (hb.run pins s1 σ H1 _ I1 q1) fun u s2 z2 => ?_)
  obtain ⟨y, H2, I2, r2, q2⟩ := z2
  refine thn (ho pins s2 σ H2 x y v u _ I2 r1 r2 q2) fun dd s3 z3 => ?_
  obtain ⟨z, H3, I3, r3, k, e, q3⟩ := z3
  subst e
  cases r3
  refine wpAny_truthy_bool ?_
  cases k with
  | false => exact ite_ff ⟨.bl false, H3, I3, rfl, q3⟩
  | true =>
    refine ite_tt (chain_link (thn (hc.run pins s3 σ H3 _ I3 q3) fun w' s4 z4 => ?_))
    obtain ⟨x2, H4, I4, r4, q4⟩ := z4
    refine thn (ho' pins s4 σ H4 y x2 u w' _ I4 r2 r4 q4) fun d2 s5 z5 => ?_
    obtain ⟨zz, H5, I5, r5, k2, e2, q5⟩ := z5
    subst e2
    cases r5
    refine wpAny_truthy_bool ?_
    cases k2 with
    | false => exact ite_ff ⟨.bl false, H5, I5, rfl, q5⟩
    | true =>
      refine ite_tt (chain_last (thn (hd.run pins s5 σ H5 _ I5 q5) fun w2 s6 z6 => ?_))
      obtain ⟨x3, H6, I6, r6, q6⟩ := z6
      exact ho'' pins s6 σ H6 x2 x3 w' w2 Q I6 r4 r6 q6
end

/-! ### operators over ints, texts, lists, tuples -/
section
variable {X : Cx}
def rAddA (K : PySem.W.Frag) : R2 := fun x y H Q => (∃ i j, x = .int i ∧ y = .int j ∧ Q (.int (i + j)) H) ∨
  (∃ i j, x = .str i ∧ y = .str j ∧ i.length + j.length ≤ sizeLine ∧ Q (.str (i ++ j)) H) ∨ rCat x y H Q ∨ rCatA K x y H Q
theorem opAddA : OpR X (binaryOp .Add) (rAddA X.K) := op_add.or (op_add_str.or (op_cat.or op_catA))
def rMulA : R2 := fun x y H Q => (∃ i j, x = .int i ∧ y = .int j ∧ CMulW i j ∧ Q (.int (i * j)) H) ∨ rMulS x y H Q ∨ rRep x y H Q
theorem opMulA : OpR X (binaryOp .Mult) rMulA := op_mulW.or (op_mulS.or op_rep)
def rEqA (K : PySem.W.Frag) : R2 := fun x y H Q => rEq x y H Q ∨ rEqD K x y H Q ∨ rEq0 K x y H Q ∨ rEqL0 K x y H Q
theorem opEqA (hu : X.A.units + 64 < cLine) : OpR X (compareOp .Eq) (rEqA X.K) := op_eq.or ((op_eqD hu).or ((op_eq0 (by omega)).or (op_eqL0 (by omega))))
def rNeA (K : PySem.W.Frag) : R2 := fun x y H Q => rNe x y H Q ∨ rNeD K x y H Q ∨ rNe0 K x y H Q ∨ rNeL0 K x y H Q
theorem opNeA (hu : X.A.units + 64 < cLine) : OpR X (compareOp .NotEq) (rNeA X.K) := op_ne.or ((op_neD hu).or ((op_ne0 (by omega)).or (op_neL0 (by omega))))
/-- the same, K and the room named: within a comprehension -/
theorem opEqB {K : PySem.W.Frag} {U : Nat} (hK : X.K = K) (hU : X.A.units = U) (hu : U + 64 < cLine) : OpR X (compareOp .Eq) (rEqA K) := by
  subst hK hU
  exact opEqA hu
theorem opNeB {K : PySem.W.Frag} {U : Nat} (hK : X.K = K) (hU : X.A.units = U) (hu : U + 64 < cLine) : OpR X (compareOp .NotEq) (rNeA K) := by
  subst hK hU
  exact opNeA hu
theorem opAddB {K : PySem.W.Frag} (hK : X.K = K) : OpR X (binaryOp .Add) (rAddA K) := by
  subst hK
  exact opAddA
theorem ixB {K : PySem.W.Frag} (hK : X.K = K) : IxR X (rIx K) := by
  subst hK
  exact ix_seq
def rLeA : R2 := fun x y H Q => (∃ i j, x = .int i ∧ y = .int j ∧ Q (.bl (decide (i ≤ j))) H) ∨ ∃ i j, x = .str i ∧ y = .str j ∧ Q (.bl (!decide (j.cps.toList < i.cps.toList))) H
theorem opLeA : OpR X (compareOp .LtE) rLeA := op_le.or op_le_str
def rLtA : R2 := fun x y H Q => (∃ i j, x = .int i ∧ y = .int j ∧ Q (.bl (decide (i < j))) H) ∨ ∃ i j, x = .str i ∧ y = .str j ∧ Q (.bl (decide (i.cps.toList < j.cps.toList))) H
theorem opLtA : OpR X (compareOp .Lt) rLtA := op_lt.or op_lt_str
def rLenA (K : PySem.W.Frag) : List V → Hp → VK → Prop := fun xs H Q => (∃ p ys, xs = [.ref p] ∧ (SqL K H p ys ∨ SqT K H p ys) ∧ Q (.int ys.length) H) ∨
  ∃ z, xs = [.str z] ∧ z.length ≤ sizeLine ∧ Q (.int z.length) H
theorem callLenA : CallR X (.builtin "len") (rLenA X.K) := call_len_seq.or call_len_str
theorem callLenB {K : PySem.W.Frag} (hK : X.K = K) : CallR X (.builtin "len") (rLenA K) := by
  subst hK
  exact callLenA
def rSlAll (K : PySem.W.Frag) : V → Option Int → Option Int → Hp → VK → Prop := fun x lo hi H Q => rSlL K x lo hi H Q ∨ rSlA K x lo hi H Q ∨ C8.rSlX x lo hi H Q
theorem slAll : SlR X (rSlAll X.K) := sl_list.or (sl_tupA.or C8.sl_txt)
end
end Xg

/-! comprehensions without side effects, isinstance of data, a module's ints, the drawing functions' state -/
namespace Xg
open PySem PySem.Spec PyProof.Rows L2

theorem Same.new {H : Hp} {p : Addr} {o : HO} (h : H p = none) : Same H (upd H p o) := fun a u e => by
  rw [upd_ne (ne_of_none e h)]; exact e
/-- what H does not know may change -/
theorem Same.mut {H H' : Hp} {p : Addr} {o : HO} (e : Same H H') (h : H p = none) : Same H (upd H' p o) := fun a u z => by
  rw [upd_ne (ne_of_none z h)]; exact e a u z
theorem Same.seqT {K : PySem.W.Frag} {H H' : Hp} {a : Addr} {xs : List V} (e : Same H H') (h : SqT K H a xs) : SqT K H' a xs := by
  rcases h with (h | ⟨o, h⟩) | h
  · exact .inl (.inl (e _ _ h))
  · exact .inl (.inr ⟨o, e _ _ h⟩)
  · exact .inr h
theorem But.same {m : Addr} {H H' : Hp} (b : But m H H') (n : H m = none) : Same H H' := fun a o e => b a o (ne_of_none e n) e
theorem But.seq {m : Addr} {K : PySem.W.Frag} {H H' : Hp} {a : Addr} {xs : List V} (b : But m H H') (f : Full H m) (h : SqL K H a xs) : SqL K H' a xs := by
  obtain ⟨kv, kvs, e⟩ := f
  rcases h with (h | ⟨o, h⟩) | h
  · exact .inl (.inl (b _ _ (fun z => by rw [z, e] at h; cases h) h))
  · exact .inl (.inr ⟨o, b _ _ (fun z => by rw [z, e] at h; cases h) h⟩)
  · exact .inr h
theorem But.seqT {m : Addr} {K : PySem.W.Frag} {H H' : Hp} {a : Addr} {xs : List V} (b : But m H H') (f : Full H m) (h : SqT K H a xs) : SqT K H' a xs := by
  obtain ⟨kv, kvs, e⟩ := f
  rcases h with (h | ⟨o, h⟩) | h
  · exact .inl (.inl (b _ _ (fun z => by rw [z, e] at h; cases h) h))
  · exact .inl (.inr ⟨o, b _ _ (fun z => by rw [z, e] at h; cases h) h⟩)
  · exact .inr h

/-! ### comprehensions that change nothing -/
section
variable {J : It} {n : Nat} {G : Hp → Prop} {Y : Nat → Hp → V → Hp → Prop} {te : TE} {tt : TT} {j : Nat} {vs : List Nat} {σ : L2.St} {H1 : Hp} {D : Addr} {Qd : Hp → Prop}
theorem wipe_back {x : V} : wipe ((wipe σ [j]).set j (some x)) [j] = wipe σ [j] := by
  show ((σ.set j none).set j (some x)).set j none = σ.set j none
  rw [List.set_set, List.set_set]
theorem lc_pure (w : Walk J n G Y) (hv : vs = [j]) (f : Nat → V) (few : n < sizeLine) (hD : H1 D = none) (hG : ∀ H, Same H1 H → G H)
    (el : ∀ i x H H', i < n → Same H1 H → Y i H x H' → H' = H ∧ ∀ Q' : VK, (∀ H2, Same H H2 → Q' (f i) H2) → te ((σ.set j none).set j (some x)) H Q')
    (fin : ∀ H, Same H1 H → H D = some (.lst ((List.range n).map f)) → Qd H) :
    ∃ W : Nat → Nat → Hp → Prop, (∃ m, W 0 m (upd H1 D (.lst []))) ∧ ∀ i m H, W i m H →
      (J.stop i H ∧ Qd H) ∨ (J.go i H ∧ ∃ Nx : Hp → Prop, (∀ H', Nx H' → ∃ m', m' < m ∧ W (i + 1) m' H') ∧ ∀ x H', J.yld i H x H' → gName j x (wipe σ vs) H' fun σ2 H2 => wipe σ2 vs = wipe σ vs ∧ tYes σ2 H2 fun b H3 =>
        if b = true then te σ2 H3 fun y H4 => ∃ acc, H4 D = some (.lst acc) ∧ acc.length < sizeLine ∧ Nx (upd H4 D (.lst (acc ++ [y]))) else Nx H3) := by
  subst hv
  refine lc_it w (fun i H => Same H1 H ∧ H D = some (.lst ((List.range i).map f))) ⟨Same.new hD, by rw [upd_same]; rfl⟩ (fun i H _ p => hG H p.1) (fun i x H H' hi p y => ?_) (fun H p => fin H p.1 p.2)
  obtain ⟨e, body⟩ := el i x H H' hi p.1 y
  subst e
  refine ⟨wipe_back, ?_⟩
  show te ((σ.set j none).set j (some x)) H' _
  refine body _ fun H2 s2 => ⟨_, s2 _ _ p.2, by rw [List.length_map, List.length_range]; omega, Same.mut (p.1.trans s2) hD, ?_⟩
  rw [upd_same, List.range_succ, List.map_append]
  rfl
/-- with a test; the element is the item itself -/
theorem lc_filter (w : Walk J n G Y) (hv : vs = [j]) (f : Nat → V) (p : Nat → Bool) (few : n < sizeLine) (hD : H1 D = none) (hG : ∀ H, Same H1 H → G H)
    (el : ∀ i x H H', i < n → Same H1 H → Y i H x H' → H' = H ∧ (∀ Q' : Bool → Hp → Prop, Q' (p i) H → tt ((σ.set j none).set j (some x)) H Q') ∧
      ∀ Q' : VK, Q' (f i) H → te ((σ.set j none).set j (some x)) H Q')
    (fin : ∀ H, Same H1 H → H D = some (.lst (((List.range n).filter p).map f)) → Qd H) :
    ∃ W : Nat → Nat → Hp → Prop, (∃ m, W 0 m (upd H1 D (.lst []))) ∧ ∀ i m H, W i m H →
      (J.stop i H ∧ Qd H) ∨ (J.go i H ∧ ∃ Nx : Hp → Prop, (∀ H', Nx H' → ∃ m', m' < m ∧ W (i + 1) m' H') ∧ ∀ x H', J.yld i H x H' → gName j x (wipe σ vs) H' fun σ2 H2 => wipe σ2 vs = wipe σ vs ∧ tt σ2 H2 fun b H3 =>
        if b = true then te σ2 H3 fun y H4 => ∃ acc, H4 D = some (.lst acc) ∧ acc.length < sizeLine ∧ Nx (upd H4 D (.lst (acc ++ [y]))) else Nx H3) := by
  subst hv
  refine lc_it w (fun i H => Same H1 H ∧ H D = some (.lst (((List.range i).filter p).map f))) ⟨Same.new hD, by rw [upd_same]; rfl⟩ (fun i H _ q => hG H q.1) (fun i x H H' hi q y => ?_) (fun H q => fin H q.1 q.2)
  obtain ⟨e, test, item⟩ := el i x H H' hi q.1 y
  subst e
  refine ⟨wipe_back, test _ ?_⟩
  cases hp : p i with
  | false =>
    show Same H1 H' ∧ H' D = some (.lst (((List.range (i + 1)).filter p).map f))
    refine ⟨q.1, ?_⟩
    rw [q.2, List.range_succ, List.filter_append, List.filter_cons, hp]
    simp
  | true =>
    show te ((σ.set j none).set j (some x)) H' _
    refine item _ ⟨_, q.2, ?_, Same.mut q.1 hD, ?_⟩
    · rw [List.length_map]
      have := List.length_filter_le p (List.range i)
      rw [List.length_range] at this
      omega
    · rw [upd_same, List.range_succ, List.filter_append, List.filter_cons, hp]
      simp
end

/-! ### isinstance of data -/
def tyName : PyData → String
  | .none => "NoneType"
  | .bool _ => "bool"
  | .int _ => "int"
  | .str _ => "str"
  | .list _ => "list"
  | .tuple _ => "tuple"
  | .dict _ => "dict"
theorem Dt.ty {K : PySem.W.Frag} {H : Hp} {v : V} {d : PyData} (h : Dt H v d) : TyX K H v (.type (tyName d)) := by
  cases h with
  | non => exact .base .non
  | bl b => exact .base (.bl b)
  | int i => exact .base (.int i)
  | str x => exact .base (.str x)
  | lst l e r => exact .base (.lst e)
  | tup e r => exact .base (.tup e)
  | emp e => exact .base (.dK e)
/-- whether a value of the one type is one of the other -/
def isTy (a b : String) : Bool := a == b || (a == "bool" && b == "int")
theorem isTy_ok {K : PySem.W.Frag} (d : PyData) {T : String} (hT : T ∈ ["int", "bool", "str", "tuple", "list", "dict"]) :
    PySem.W.kitOne K (.type (tyName d)) (.type T) = some (isTy (tyName d) T) := by
  have all : ∀ a ∈ ["NoneType", "bool", "int", "str", "list", "tuple", "dict"], ∀ b ∈ ["int", "bool", "str", "tuple", "list", "dict"], kitB a b = some (isTy a b) := by decide +kernel
  exact kit_ty (all (tyName d) (by cases d <;> simp [tyName]) T hT)
section
variable {X : Cx}
def rIsD : List V → Hp → VK → Prop := fun xs H Q => ∃ (x : V) (T : String) (d : PyData), xs = [x, .ty T] ∧ T ∈ ["int", "bool", "str", "tuple", "list", "dict"] ∧ Dt H x d ∧ Q (.bl (isTy (tyName d) T)) H
theorem call_isD : CallR X (.builtin "isinstance") rIsD := by
  intro pins s σ H xs us Q I r h
  obtain ⟨x, T, d, e, hT, dt, q⟩ := h
  exact call_isi pins s σ H xs us Q I r ⟨x, .ty T, _, _, _, e, .ty T, dt.ty, isTy_ok d hT, q⟩
theorem pe_ty {x : Str} {T : String} {pos : Pos} (hg : Gl X x) (hm : X.mg x = none) (hv : bootBuiltins x = some (.type T)) (hn : x ≠ "__name__" := by decide) (hd : (x == ("__debug__" : Str)) = false := by decide) :
    PE X (.Name x pos) (tC (.ty T)) := pe_bltn hg hm hv rfl hn hd
theorem pe_gint {x : Str} {n : Int} {pos : Pos} (hg : Gl X x) (hm : ∃ tk, X.mg x = some (.int n tk)) (hd : (x == ("__debug__" : Str)) = false := by decide) : PE X (.Name x pos) (tC (.int n)) := by
  obtain ⟨tk, e⟩ := hm
  exact pe_glob hg e ⟨tk, rfl⟩ hd
end
end Xg

/-! expressions that build data, with no side effect -/
namespace Xg
open PySem PySem.Spec PyProof.Rows L2
/-- H without N -/
def wo (N : Addr) (H : Hp) : Hp := fun a => if a = N then none else H a
theorem wo_ne {N a : Addr} {H : Hp} (h : a ≠ N) : wo N H a = H a := if_neg h
theorem wo_some {N a : Addr} {H : Hp} {o : HO} (h : wo N H a = some o) : a ≠ N ∧ H a = some o := by
  by_cases z : a = N
  · unfold wo at h
    rw [if_pos z] at h
    cases h
  · exact ⟨z, by rw [wo_ne z] at h; exact h⟩
theorem wo_of {N : Addr} {H : Hp} : Same (wo N H) H := fun _ _ e => (wo_some e).2
theorem wo_same {N : Addr} {H H' : Hp} (s : Same H H') : Same (wo N H) (wo N H') := fun a o e => by
  obtain ⟨z, e⟩ := wo_some e
  rw [wo_ne z]
  exact s a o e
theorem wo_upd {N p : Addr} {H : Hp} {o : HO} (h : p ≠ N) : wo N (upd H p o) p = some o := by
  rw [wo_ne h]
  exact upd_same
theorem wo_mut {N : Addr} {H : Hp} {o : HO} : wo N (upd H N o) = wo N H := by
  funext a
  by_cases z : a = N
  · unfold wo
    rw [if_pos z, if_pos z]
  · rw [wo_ne z, wo_ne z, upd_ne z]
theorem wo_new {N : Addr} {H : Hp} (h : H N = none) : Same H (wo N H) := fun a o e => by
  rw [wo_ne (ne_of_none e h)]
  exact e
theorem But.wo {N m : Addr} {H H' : Hp} (b : But m H H') : But m (wo N H) (wo N H') := fun a o n e => by
  obtain ⟨z, e⟩ := wo_some e
  rw [wo_ne z]
  exact b a o n e
mutual
theorem Dt.map {H H' : Hp} (h : ∀ a o, (∀ kv kvs, o ≠ .dK (kv :: kvs)) → H a = some o → H' a = some o) : ∀ {d : PyData} {v : V}, Dt H v d → Dt H' v d
  | _, _, .non => .non
  | _, _, .bl b => .bl b
  | _, _, .int i => .int i
  | _, _, .str x => .str x
  | _, _, .lst l e r => .lst l (h _ _ (fun _ _ z => by cases z) e) (Dts.map h r)
  | _, _, .tup e r => .tup (h _ _ (fun _ _ z => by cases z) e) (Dts.map h r)
  | _, _, .emp e => .emp (h _ _ (fun _ _ z => by cases z) e)
theorem Dts.map {H H' : Hp} (h : ∀ a o, (∀ kv kvs, o ≠ .dK (kv :: kvs)) → H a = some o → H' a = some o) : ∀ {ds : List PyData} {vs : List V}, Dts H vs ds → Dts H' vs ds
  | _, _, .nil => .nil
  | _, _, .cons e r => .cons (Dt.map h e) (Dts.map h r)
end
theorem but_wo {N m : Addr} {H H' : Hp} (f : Full H m) (b : But m H H') (a : Addr) (o : HO) (no : ∀ kv kvs, o ≠ .dK (kv :: kvs)) (e : wo N H a = some o) : wo N H' a = some o := by
  obtain ⟨z, e⟩ := wo_some e
  rw [wo_ne z]
  refine b a o (fun y => ?_) e
  obtain ⟨kv, kvs, q⟩ := f
  rw [y, q] at e
  exact no kv kvs (Option.some.inj e).symm
theorem Dt.butW {N m : Addr} {H H' : Hp} (f : Full H m) (b : But m H H') {d : PyData} {v : V} (h : Dt (wo N H) v d) : Dt (wo N H') v d := Dt.map (but_wo f b) h
theorem Dts.butW {N m : Addr} {H H' : Hp} (f : Full H m) (b : But m H H') {ds : List PyData} {vs : List V} (h : Dts (wo N H) vs ds) : Dts (wo N H') vs ds := Dts.map (but_wo f b) h
/-- N is tracked -/
def Tk (N : Addr) (H : Hp) : Prop := ∃ o, H N = some o
theorem Tk.same {N : Addr} {H H' : Hp} (t : Tk N H) (s : Same H H') : Tk N H' := let ⟨_, e⟩ := t; ⟨_, s _ _ e⟩
theorem Tk.ne {N p : Addr} {H : Hp} (t : Tk N H) (h : H p = none) : p ≠ N := fun z => by
  obtain ⟨o, e⟩ := t
  rw [← z, h] at e
  cases e
theorem tk_but {N m : Addr} {H H' : Hp} (f : Full H' m) (b : But m H H') (t : Tk N H) : Tk N H' := by
  by_cases z : N = m
  · obtain ⟨kv, kvs, e⟩ := f
    exact ⟨_, by rw [z]; exact e⟩
  · obtain ⟨o, e⟩ := t
    exact ⟨o, b _ _ z e⟩
section
variable {K : PySem.W.Frag} {N : Addr} {H0 : Hp} {σ : L2.St} {a b : TE} {t : TA}
/-- from a heap that holds H0 on, the expression gives the data -/
def Gv (N : Addr) (H0 : Hp) (σ : L2.St) (te : TE) (d : PyData) : Prop := Tk N H0 → ∀ (H : Hp) (Q : VK), Same H0 H → (∀ v H', Same H H' → Dt (wo N H') v d → Q v H') → te σ H Q
def Ga (N : Addr) (H0 : Hp) (σ : L2.St) (t : TA) (ds : List PyData) : Prop := Tk N H0 → ∀ (H : Hp) (Q : List V → Hp → Prop), Same H0 H → (∀ vs H', Same H H' → Dts (wo N H') vs ds → Q vs H') → t σ H Q
/-- a list of the data; its address may be any -/
def GvL (N : Addr) (H0 : Hp) (σ : L2.St) (te : TE) (ds : List PyData) : Prop := Tk N H0 → ∀ (H : Hp) (Q : VK), Same H0 H → (∀ l vs H', Same H H' → H' l = some (.lst vs) → Dts (wo N H') vs ds → Q (.ref l) H') → te σ H Q
theorem Gv.var {i : Nat} {v : V} {d : PyData} (h : σ[i]? = some (some v)) (dt : Dt (wo N H0) v d) : Gv N H0 σ (tVar i) d := fun _ H _ s q => ⟨v, h, q v H (Same.refl H) (Dt.same (wo_same s) dt)⟩
theorem Gv.non : Gv N H0 σ (tC .non) .none := fun _ H _ _ q => q _ H (Same.refl H) .non
theorem Gv.bl {x : Bool} : Gv N H0 σ (tC (.bl x)) (.bool x) := fun _ H _ _ q => q _ H (Same.refl H) (.bl x)
theorem Gv.int {x : Int} : Gv N H0 σ (tC (.int x)) (.int x) := fun _ H _ _ q => q _ H (Same.refl H) (.int x)
theorem Gv.str {x : Str} : Gv N H0 σ (tC (.str x)) (.str x) := fun _ H _ _ q => q _ H (Same.refl H) (.str x)
theorem Gv.emp : Gv N H0 σ tDNewK (.dict []) := fun tk _ _ s q _ hp => q _ _ (Same.new hp) (.emp (wo_upd ((tk.same s).ne hp)))
theorem Gv.neg {i : Int} (h : Gv N H0 σ a (.int i)) : Gv N H0 σ (tUn (rU fun i => .int (-i)) a) (.int (-i)) := fun tk H Q s q => h tk H _ s fun v H' s' dt => by
  cases dt
  exact ⟨i, rfl, q _ _ s' (.int _)⟩
theorem Gv.sub {i j : Int} (ha : Gv N H0 σ a (.int i)) (hb : Gv N H0 σ b (.int j)) : Gv N H0 σ (tOp (rI0 fun i j => .int (i - j)) a b) (.int (i - j)) := fun tk H Q s q =>
  ha tk H _ s fun v H1 s1 d1 => hb tk H1 _ (s.trans s1) fun u H2 s2 d2 => by
    cases d1
    cases d2
    exact ⟨i, j, rfl, rfl, q _ _ (s1.trans s2) (.int _)⟩
theorem Gv.pow {i j : Int} (ha : Gv N H0 σ a (.int i)) (hb : Gv N H0 σ b (.int j)) (c : CPow i j) : Gv N H0 σ (tOp (rI CPow fun i j => .int (i ^ j.toNat)) a b) (.int (i ^ j.toNat)) := fun tk H Q s q =>
  ha tk H _ s fun v H1 s1 d1 => hb tk H1 _ (s.trans s1) fun u H2 s2 d2 => by
    cases d1
    cases d2
    exact ⟨i, j, rfl, rfl, c, q _ _ (s1.trans s2) (.int _)⟩
theorem Gv.add {i j : Int} (ha : Gv N H0 σ a (.int i)) (hb : Gv N H0 σ b (.int j)) : Gv N H0 σ (tOp (rAddA K) a b) (.int (i + j)) := fun tk H Q s q =>
  ha tk H _ s fun v H1 s1 d1 => hb tk H1 _ (s.trans s1) fun u H2 s2 d2 => by
    cases d1
    cases d2
    exact .inl ⟨i, j, rfl, rfl, q _ _ (s1.trans s2) (.int _)⟩
theorem Gv.mulS {z : Str} {n : Nat} (ha : Gv N H0 σ a (.str z)) (hb : Gv N H0 σ b (.int (n : Int))) (h1 : n * z.length ≤ 1000000) (h2 : n ≤ 1000000) (h3 : z.length ≤ 1000000) : Gv N H0 σ (tOp rMulA a b) (.str (times z n)) := fun tk H Q s q =>
  ha tk H _ s fun v H1 s1 d1 => hb tk H1 _ (s.trans s1) fun u H2 s2 d2 => by
    cases d1
    cases d2
    exact .inr (.inl ⟨z, n, rfl, rfl, h1, h2, h3, q _ _ (s1.trans s2) (.str _)⟩)
theorem Ga.nil : Ga N H0 σ tNil [] := fun _ H _ _ q => q [] H (Same.refl H) .nil
theorem Ga.cons {d : PyData} {ds : List PyData} (ha : Gv N H0 σ a d) (ht : Ga N H0 σ t ds) : Ga N H0 σ (tCons a t) (d :: ds) := fun tk H Q s q =>
  ha tk H _ s fun v H1 s1 d1 => ht tk H1 _ (s.trans s1) fun vs H2 s2 d2 => q _ _ (s1.trans s2) (.cons (Dt.same (wo_same s2) d1) d2)
theorem Gv.tup {ds : List PyData} (ht : Ga N H0 σ t ds) (few : ds.length ≤ sizeLine) : Gv N H0 σ (tTup t) (.tuple ds) := fun tk H Q s q =>
  ht tk H _ s fun vs H1 s1 d1 => ⟨by rw [d1.length]; exact few, fun p hp => q _ _ (s1.trans (Same.new hp)) (.tup (wo_upd ((tk.same (s.trans s1)).ne hp)) (Dts.same (wo_same (Same.new hp)) d1))⟩
theorem Gv.lst {ds : List PyData} (ht : Ga N H0 σ t ds) (few : ds.length ≤ sizeLine) : Gv N H0 σ (tLstS t) (.list ds) := fun tk H Q s q =>
  ht tk H _ s fun vs H1 s1 d1 => ⟨by rw [d1.length]; exact few, fun p hp n => q _ _ (s1.trans (Same.new hp)) (.lst n (wo_upd ((tk.same (s.trans s1)).ne hp)) (Dts.same (wo_same (Same.new hp)) d1))⟩
theorem GvL.lst {ds : List PyData} (ht : Ga N H0 σ t ds) (few : ds.length ≤ sizeLine) : GvL N H0 σ (tLstS t) ds := fun tk H Q s q =>
  ht tk H _ s fun vs H1 s1 d1 => ⟨by rw [d1.length]; exact few, fun p hp _ => q _ _ _ (s1.trans (Same.new hp)) upd_same (Dts.same (wo_same (Same.new hp)) d1)⟩
theorem GvL.var {i : Nat} {l : Addr} {vs : List V} {ds : List PyData} (h : σ[i]? = some (some (.ref l))) (e : H0 l = some (.lst vs)) (dt : Dts (wo N H0) vs ds) : GvL N H0 σ (tVar i) ds := fun _ H _ s q =>
  ⟨_, h, q l vs H (Same.refl H) (s _ _ e) (Dts.same (wo_same s) dt)⟩
theorem GvL.cat {xs ys : List PyData} (ha : GvL N H0 σ a xs) (hb : GvL N H0 σ b ys) (few : xs.length + ys.length ≤ sizeLine) : GvL N H0 σ (tOp (rAddA K) a b) (xs ++ ys) := fun tk H Q s q =>
  ha tk H _ s fun l vs H1 s1 e1 d1 => hb tk H1 _ (s.trans s1) fun l2 us H2 s2 e2 d2 =>
    .inr (.inr (.inl ⟨l, l2, vs, us, rfl, rfl, s2 _ _ e1, e2, by rw [d1.length, d2.length]; exact few, fun p hp =>
      q p _ _ ((s1.trans s2).trans (Same.new hp)) upd_same (Dts.append (Dts.same (wo_same (s2.trans (Same.new hp))) d1) (Dts.same (wo_same (Same.new hp)) d2))⟩))
theorem cat_val {xs ys : List PyData} {H : Hp} {Q : VK} {v u : V} (tk : Tk N H) (d1 : Dt (wo N H) v (.tuple xs)) (d2 : Dt (wo N H) u (.tuple ys)) (few : xs.length + ys.length ≤ sizeLine)
    (q : ∀ v' H', Same H H' → Dt (wo N H') v' (.tuple (xs ++ ys)) → Q v' H') : rAddA K v u H Q := by
  cases d1 with
  | @tup p vs _ e1 r1 =>
    cases d2 with
    | @tup p2 us _ e2 r2 =>
      refine .inr (.inr (.inr ⟨p, p2, vs, us, rfl, rfl, .inl (.inl (wo_some e1).2), .inl (.inl (wo_some e2).2), by rw [r1.length, r2.length]; exact few, fun z => ?_, fun _ z => ?_, fun _ _ q2 hq => ?_⟩))
      · subst z
        cases r1
        exact q _ _ (Same.refl H) (.tup e2 r2)
      · subst z
        cases r2
        rw [List.append_nil] at q
        exact q _ _ (Same.refl H) (.tup e1 r1)
      · exact q _ _ (Same.new hq) (.tup (wo_upd (tk.ne hq)) (Dts.append (Dts.same (wo_same (Same.new hq)) r1) (Dts.same (wo_same (Same.new hq)) r2)))
theorem Gv.catT {xs ys : List PyData} (ha : Gv N H0 σ a (.tuple xs)) (hb : Gv N H0 σ b (.tuple ys)) (few : xs.length + ys.length ≤ sizeLine) : Gv N H0 σ (tOp (rAddA K) a b) (.tuple (xs ++ ys)) := fun tk H Q s q =>
  ha tk H _ s fun v H1 s1 d1 => hb tk H1 _ (s.trans s1) fun u H2 s2 d2 => cat_val (tk.same ((s.trans s1).trans s2)) (Dt.same (wo_same s2) d1) d2 few fun v' H' s3 d3 => q v' H' ((s1.trans s2).trans s3) d3
/-- an int part of a slice, or none -/
def Go (N : Addr) (H0 : Hp) (σ : L2.St) (o : TO) (i : Option Int) : Prop := Tk N H0 → ∀ (H : Hp) (Q : Option Int → Hp → Prop), Same H0 H → (∀ H', Same H H' → Q i H') → o σ H Q
theorem Go.none : Go N H0 σ tNoPart none := fun _ H _ _ q => q H (Same.refl H)
theorem Go.some {i : Int} (h : Gv N H0 σ a (.int i)) : Go N H0 σ (tPart a) (some i) := fun tk H _ s q => h tk H _ s fun v H' s' d => by
  cases d
  exact ⟨i, rfl, q _ s'⟩
def cutD (xs : List PyData) (lo hi : Option Int) : List PyData := (xs.drop (HT.sIx xs.length 0 lo)).take (HT.sIx xs.length xs.length hi - HT.sIx xs.length 0 lo)
theorem Dts.cut {H : Hp} {vs : List V} {ds : List PyData} (h : Dts H vs ds) (lo hi : Option Int) : Dts H (cutV vs lo hi) (cutD ds lo hi) := by
  unfold cutV cutD
  rw [h.length]
  exact Dts.take _ (Dts.drop _ h)
theorem Gv.sl {xs : List PyData} {lo hi : TO} {i j : Option Int} (ha : Gv N H0 σ a (.tuple xs)) (hl : Go N H0 σ lo i) (hh : Go N H0 σ hi j) : Gv N H0 σ (tSl (rSlAll K) a lo hi) (.tuple (cutD xs i j)) := fun tk H Q s q =>
  ha tk H _ s fun v H1 s1 d1 => hl tk H1 _ (s.trans s1) fun H2 s2 => hh tk H2 _ ((s.trans s1).trans s2) fun H3 s3 => by
    have d1' := Dt.same (wo_same (s2.trans s3)) d1
    cases d1' with
    | @tup p vs _ e1 r1 =>
      refine .inr (.inl ⟨p, vs, rfl, .inl (.inl (wo_some e1).2), fun z => ?_, fun _ p2 hp => ?_⟩)
      · have e : cutD xs i j = xs := by
          unfold cutD
          rw [← r1.length, z.1, z.2, List.drop_zero, r1.length]
          simp
        rw [e] at q
        exact q _ _ ((s1.trans s2).trans s3) (.tup e1 r1)
      · exact q _ _ (((s1.trans s2).trans s3).trans (Same.new hp)) (.tup (wo_upd ((tk.same (((s.trans s1).trans s2).trans s3)).ne hp)) (Dts.cut (Dts.same (wo_same (Same.new hp)) r1) i j))
theorem Gv.rev {xs : List PyData} (ha : Gv N H0 σ a (.tuple xs)) : Gv N H0 σ (tRevT K a) (.tuple xs.reverse) := fun tk H Q s q =>
  ha tk H _ s fun v H1 s1 d1 => by
    cases d1 with
    | @tup p vs _ e1 r1 =>
      exact ⟨p, vs, rfl, .inl (.inl (wo_some e1).2), fun p2 hp => q _ _ (s1.trans (Same.new hp)) (.tup (wo_upd ((tk.same (s.trans s1)).ne hp)) (Dts.reverse (Dts.same (wo_same (Same.new hp)) r1)))⟩
theorem Gv.listOf {xs : List PyData} (ha : Gv N H0 σ a (.tuple xs)) : Gv N H0 σ (tCB (rListS K) (tCons a tNil)) (.list xs) := fun tk H Q s q =>
  ha tk H _ s fun v H1 s1 d1 => by
    cases d1 with
    | @tup p vs _ e1 r1 =>
      exact ⟨p, vs, rfl, .inl (.inl (wo_some e1).2), fun p2 hp n => q _ _ (s1.trans (Same.new hp)) (.lst n (wo_upd ((tk.same (s.trans s1)).ne hp)) (Dts.same (wo_same (Same.new hp)) r1))⟩
/-- what stands in a list of data -/
theorem Dts.mem {H : Hp} : ∀ {ds : List PyData} {vs : List V} {v : V}, Dts H vs ds → v ∈ vs → ∃ d, d ∈ ds ∧ Dt H v d
  | _, _, _, .nil, h => by cases h
  | _, _, v, .cons h r, hv => by
    rcases List.mem_cons.mp hv with rfl | hv
    · exact ⟨_, List.mem_cons_self, h⟩
    · obtain ⟨d, hd, dd⟩ := Dts.mem r hv
      exact ⟨d, List.mem_cons_of_mem _ hd, dd⟩
end
section
variable {σ : L2.St} {H : Hp} {Q : VK} {te : TE} {t : TA} {u : TS} {sp : Sp} {i : Nat}
theorem seqN {D} (h : te σ H fun x H1 => u D (σ.set i (some x)) H1) : tSeq (tAsg te (gName i)) u D σ H := h
theorem seqP {D} {ta : TA} {j : Nat} (h : ta σ H fun vs H1 => ∃ v w, vs = [v, w] ∧ u D ((σ.set i (some v)).set j (some w)) H1) : tSeq (tPar i j ta) u D σ H := h
theorem headC {ta : TA} {Q' : List V → Hp → Prop} (h : te σ H fun x H1 => ta σ H1 fun xs H2 => Q' (x :: xs) H2) : tCons te ta σ H Q' := h
theorem seqI {D} {v : TS} (h : v { D with nx := u D } σ H) : tSeq v u D σ H := h
theorem forI {wi : TI} {g : TG} {tb : TS} {D : Ends} (h : wi σ H fun J H1 => ∃ W : Nat → Nat → L2.St → Hp → Prop, (∃ m, W 0 m σ H1) ∧ ∀ i m σ H, W i m σ H →
  (J.stop i H ∧ D.nx σ H) ∨ (J.go i H ∧ ∃ N : L2.St → Hp → Prop, (∀ σ' H', N σ' H' → ∃ m', m' < m ∧ W (i + 1) m' σ' H') ∧ ∀ x H', J.yld i H x H' → g x σ H' fun σ2 H2 => tb { D with nx := N, ct := N, bk := D.nx } σ2 H2)) : tFor wi g tb D σ H := h
theorem lstI (h : t σ H fun xs H1 => xs.length ≤ sizeLine ∧ ∀ p, H1 p = none → (p == sysModules) = false → Q (.ref p) (upd H1 p (.lst xs))) : tLstS t σ H Q := h
theorem opI {r : R2} {tb : TE} (h : te σ H fun x H1 => tb σ H1 fun y H2 => r x y H2 Q) : tOp r te tb σ H Q := h
theorem ownA (h : t σ H fun vs H1 => sp vs H1 Q E0) : tOwn sp t σ H Q := h
theorem varC {v : V} (h : σ[i]? = some (some v)) {Q' : List V → Hp → Prop} (r : t σ H fun xs H2 => Q' (v :: xs) H2) : tCons (tVar i) t σ H Q' := ⟨v, h, r⟩
theorem oneC {Q' : List V → Hp → Prop} (r : te σ H fun x H2 => Q' [x] H2) : tCons te tNil σ H Q' := r
theorem retN {D} (r : te σ H fun x H2 => D.rt x H2) : tRet te D σ H := r
end
theorem cp1018 : CPow 10 18 := ⟨by decide, by decide, by decide⟩
section
variable {K : PySem.W.Frag} {σ : L2.St} {H : Hp} {Q : VK} {tl te : TE} {g : TG} {tt : TT} {vs : List Nat}
theorem lcL (h : tl σ H fun x H1 => ∃ a, x = .ref a ∧ (∃ xs, SqL K H1 a xs) ∧ tLc (fun _ H R => R (Itl K a) H) g tt te vs σ H1 Q) : tLc (iList K tl) g tt te vs σ H Q := h
end
theorem listI {K : PySem.W.Frag} {σ : L2.St} {H : Hp} {tl : TE} {R : It → Hp → Prop} (h : tl σ H fun x H1 => ∃ a, x = .ref a ∧ (∃ xs, SqL K H1 a xs) ∧ R (Itl K a) H1) : iList K tl σ H R := h
theorem bools_dts {H : Hp} : ∀ bs : List Bool, Dts H (bs.map V.bl) (bs.map PyData.bool)
  | [] => .nil
  | b :: bs => .cons (.bl b) (bools_dts bs)
theorem bools_plain : ∀ bs : List Bool, PyData.showableAll (bs.map PyData.bool) = true ∧ PyData.hasDictAll (bs.map PyData.bool) = false ∧ PyData.depthAll (bs.map PyData.bool) = 0
  | [] => ⟨rfl, rfl, rfl⟩
  | b :: bs => by
    obtain ⟨h1, h2, h3⟩ := bools_plain bs
    refine ⟨?_, ?_, ?_⟩
    · simp only [List.map_cons, PyData.showableAll, PyData.showable, h1, Bool.and_self]
    · simp only [List.map_cons, PyData.hasDictAll, PyData.hasDict, h2, Bool.or_self]
    · simp only [List.map_cons, PyData.depthAll, PyData.depth, h3, Nat.max_self]
section
variable {X : Cx}
/-- repr of a list of truths, wherever it stands -/
def rReprB : List V → Hp → VK → Prop := fun xs H Q => ∃ (p : Addr) (bs : List Bool), xs = [.ref p] ∧ H p = some (.lst (bs.map V.bl)) ∧ (PyData.list (bs.map .bool)).shown.length ≤ sizeLine ∧ Q (.str (PyData.list (bs.map .bool)).shown) H
theorem call_repr_bools (gd : X.A.guards = some []) (hu : X.A.units + 64 < cLine) : CallR X (.builtin "repr") rReprB := by
  intro pins s σ H xs us Q I r h
  obtain ⟨p, bs, rfl, e, sz, q⟩ := h
  obtain ⟨u, rfl, r1⟩ := vals1 r
  cases r1
  obtain ⟨_, its, n, rv, eo⟩ := (show ObjOk X.prog X.w H s.heap p (.lst (bs.map V.bl)) from I.hok _ _ e)
  obtain ⟨as, hr, no⟩ := Dts.reads I (bs.map .bool) _ its (bools_dts bs) rv
  obtain ⟨p1, p2, p3⟩ := bools_plain bs
  have dp : (PyData.list (bs.map .bool)).depth ≤ 40 := by
    simp only [PyData.depth, p3]
    omega
  refine repr_of_reads' (d := .list (bs.map .bool)) (.list eo rfl rfl (by simpa using hr)) p1 (fun z => ?_) gd (by omega) (fun _ _ z => z) (fun h' t k hk => ⟨.str _, H, I.kept (t' := k) hk, ⟨t, rfl⟩, q⟩) sz
  rw [show (PyData.list (bs.map .bool)).hasDict = PyData.hasDictAll (bs.map .bool) from rfl, p2] at z
  cases z
def rReprA : List V → Hp → VK → Prop := fun xs H Q => rRepr xs H Q ∨ rReprB xs H Q
theorem callReprA (gd : X.A.guards = some []) (hu : X.A.units + 64 < cLine) : CallR X (.builtin "repr") rReprA := (call_repr_data gd hu).or (call_repr_bools gd hu)
end
end Xg

namespace K01
open PySem L2 Xg
def top (i : Nat) : Stmt := PySem.Challenge.pw_bulkload_k01_kinds_looked_at.main.body.getD i (.Pass ⟨0, 0, 0, 0⟩)
abbrev s_is_number : Stmt := top 2
abbrev N_is_number : List Str := ["value"]
theorem sc_is_number : FnScope N_is_number ["value"] (defScope s_is_number) := ⟨rfl, rfl, rfl, by decide +kernel, rfl, by decide +kernel, by decide +kernel⟩
abbrev s_is_whole : Stmt := top 3
abbrev N_is_whole : List Str := ["value", "low", "high"]
theorem sc_is_whole : FnScope N_is_whole ["value", "low", "high"] (defScope s_is_whole) := ⟨rfl, rfl, rfl, by decide +kernel, rfl, by decide +kernel, by decide +kernel⟩
abbrev s_is_plain : Stmt := top 4
abbrev N_is_plain : List Str := ["string", "plain"]
theorem sc_is_plain : FnScope N_is_plain ["string"] (defScope s_is_plain) := ⟨rfl, rfl, rfl, by decide +kernel, rfl, by decide +kernel, by decide +kernel⟩
abbrev s_is_text : Stmt := top 5
abbrev N_is_text : List Str := ["value"]
theorem sc_is_text : FnScope N_is_text ["value"] (defScope s_is_text) := ⟨rfl, rfl, rfl, by decide +kernel, rfl, by decide +kernel, by decide +kernel⟩
abbrev s_are_different : Stmt := top 6
abbrev N_are_different : List Str := ["strings"]
theorem sc_are_different : FnScope N_are_different ["strings"] (defScope s_are_different) := ⟨rfl, rfl, rfl, by decide +kernel, rfl, by decide +kernel, by decide +kernel⟩
abbrev s_are_bounds : Stmt := top 13
abbrev N_are_bounds : List Str := ["low", "high"]
theorem sc_are_bounds : FnScope N_are_bounds ["low", "high"] (defScope s_are_bounds) := ⟨rfl, rfl, rfl, by decide +kernel, rfl, by decide +kernel, by decide +kernel⟩
abbrev s_is_word : Stmt := top 14
abbrev N_is_word : List Str := ["value"]
theorem sc_is_word : FnScope N_is_word ["value"] (defScope s_is_word) := ⟨rfl, rfl, rfl, by decide +kernel, rfl, by decide +kernel, by decide +kernel⟩
abbrev s_are_words : Stmt := top 15
abbrev N_are_words : List Str := ["value", "word"]
theorem sc_are_words : FnScope N_are_words ["value"] (defScope s_are_words) := ⟨rfl, rfl, rfl, by decide +kernel, rfl, by decide +kernel, by decide +kernel⟩
abbrev s_is_kind : Stmt := top 16
abbrev N_is_kind : List Str := ["value", "word"]
theorem sc_is_kind : FnScope N_is_kind ["value"] (defScope s_is_kind) := ⟨rfl, rfl, rfl, by decide +kernel, rfl, by decide +kernel, by decide +kernel⟩
abbrev s__law_begun : Stmt := top 18
abbrev N__law_begun : List Str := ["_law_cells"]
theorem sc__law_begun : FnScope N__law_begun ["_law_cells"] (defScope s__law_begun) := ⟨rfl, rfl, rfl, by decide +kernel, rfl, by decide +kernel, by decide +kernel⟩
abbrev s__law_next : Stmt := top 19
abbrev N__law_next : List Str := ["_law_m", "_law_total", "_law_found", "_law_k", "_law_cell", "_law_mixed"]
theorem sc__law_next : FnScope N__law_next ["_law_m", "_law_total"] (defScope s__law_next) := ⟨rfl, rfl, rfl, by decide +kernel, rfl, by decide +kernel, by decide +kernel⟩
abbrev s__law_of : Stmt := top 20
abbrev N__law_of : List Str := ["_law_m", "_law_items"]
theorem sc__law_of : FnScope N__law_of ["_law_m", "_law_items"] (defScope s__law_of) := ⟨rfl, rfl, rfl, by decide +kernel, rfl, by decide +kernel, by decide +kernel⟩
abbrev s__law_is_whole : Stmt := top 21
abbrev N__law_is_whole : List Str := ["_law_thing"]
theorem sc__law_is_whole : FnScope N__law_is_whole ["_law_thing"] (defScope s__law_is_whole) := ⟨rfl, rfl, rfl, by decide +kernel, rfl, by decide +kernel, by decide +kernel⟩
abbrev s__law_is_text : Stmt := top 22
abbrev N__law_is_text : List Str := ["_law_thing", "_law_least", "_law_most", "_law_sign"]
theorem sc__law_is_text : FnScope N__law_is_text ["_law_thing", "_law_least", "_law_most"] (defScope s__law_is_text) := ⟨rfl, rfl, rfl, by decide +kernel, rfl, by decide +kernel, by decide +kernel⟩
abbrev s__law_is_kind : Stmt := top 23
abbrev N__law_is_kind : List Str := ["_law_thing", "_law_word", "_law_rest", "_law_one"]
theorem sc__law_is_kind : FnScope N__law_is_kind ["_law_thing"] (defScope s__law_is_kind) := ⟨rfl, rfl, rfl, by decide +kernel, rfl, by decide +kernel, by decide +kernel⟩
abbrev s__law_kind : Stmt := top 24
abbrev N__law_kind : List Str := ["_law_m", "_law_way", "_law_some", "_law_low", "_law_high", "_law_words", "_law_found", "_law_k"]
theorem sc__law_kind : FnScope N__law_kind ["_law_m"] (defScope s__law_kind) := ⟨rfl, rfl, rfl, by decide +kernel, rfl, by decide +kernel, by decide +kernel⟩
abbrev s__law_odd : Stmt := top 25
abbrev N__law_odd : List Str := ["_law_m", "_law_some"]
theorem sc__law_odd : FnScope N__law_odd ["_law_m"] (defScope s__law_odd) := ⟨rfl, rfl, rfl, by decide +kernel, rfl, by decide +kernel, by decide +kernel⟩
abbrev s__law_bent : Stmt := top 26
abbrev N__law_bent : List Str := ["_law_m", "_law_thing", "_law_way", "_law_at", "_law_some"]
theorem sc__law_bent : FnScope N__law_bent ["_law_m", "_law_thing"] (defScope s__law_bent) := ⟨rfl, rfl, rfl, by decide +kernel, rfl, by decide +kernel, by decide +kernel⟩
abbrev s__law_bounds_right : Stmt := top 27
abbrev N__law_bounds_right : List Str := ["_law_most", "_law_words", "_law_good", "_law_bad", "_law_heard", "_law_one", "_law_k"]
theorem sc__law_bounds_right : FnScope N__law_bounds_right [] (defScope s__law_bounds_right) := ⟨rfl, rfl, rfl, by decide +kernel, rfl, by decide +kernel, by decide +kernel⟩
abbrev s_law : Stmt := top 28
abbrev N_law : List Str := ["_law_cells", "_law_m", "_law_turn", "_law_own", "_law_bent_here", "_law_thing", "_law_shown", "_law_k", "_law_one"]
theorem sc_law : FnScope N_law ["_law_cells"] (defScope s_law) := ⟨rfl, rfl, rfl, by decide +kernel, rfl, by decide +kernel, by decide +kernel⟩
structure Tx (K : PySem.W.Frag) (mg : Str → Option Value) : Prop where
  z_all : mg "all" = none
  z_bool : mg "bool" = none
  z_int : mg "int" = none
  z_isinstance : mg "isinstance" = none
  z_len : mg "len" = none
  z_list : mg "list" = none
  z_min : mg "min" = none
  z_range : mg "range" = none
  z_repr : mg "repr" = none
  z_set : mg "set" = none
  z_sorted : mg "sorted" = none
  z_str : mg "str" = none
  z_tuple : mg "tuple" = none
  c_GREATEST : ∃ tk, mg "GREATEST" = some (.int 999999999999999999 tk)
  c_MOST_CHARACTERS : ∃ tk, mg "MOST_CHARACTERS" = some (.int 20000 tk)
  c_MOST_IN_TEXT : ∃ tk, mg "MOST_IN_TEXT" = some (.int 1000 tk)
  c_MOST_IN_WORD : ∃ tk, mg "MOST_IN_WORD" = some (.int 20 tk)
  c_MOST_PLACES : ∃ tk, mg "MOST_PLACES" = some (.int 9 tk)
  c_MOST_WORDS : ∃ tk, mg "MOST_WORDS" = some (.int 20 tk)
namespace B
theorem all : bootBuiltins ("all" : Str) = some (.builtin "all") := by decide +kernel
theorem bool : bootBuiltins ("bool" : Str) = some (.type "bool") := by decide +kernel
theorem int : bootBuiltins ("int" : Str) = some (.type "int") := by decide +kernel
theorem isinstance : bootBuiltins ("isinstance" : Str) = some (.builtin "isinstance") := by decide +kernel
theorem len : bootBuiltins ("len" : Str) = some (.builtin "len") := by decide +kernel
theorem list : bootBuiltins ("list" : Str) = some (.type "list") := by decide +kernel
theorem min : bootBuiltins ("min" : Str) = some (.builtin "min") := by decide +kernel
theorem range : bootBuiltins ("range" : Str) = some (.type "range") := by decide +kernel
theorem repr : bootBuiltins ("repr" : Str) = some (.builtin "repr") := by decide +kernel
theorem set : bootBuiltins ("set" : Str) = some (.type "set") := by decide +kernel
theorem sorted : bootBuiltins ("sorted" : Str) = some (.builtin "sorted") := by decide +kernel
theorem str : bootBuiltins ("str" : Str) = some (.type "str") := by decide +kernel
theorem tuple : bootBuiltins ("tuple" : Str) = some (.type "tuple") := by decide +kernel
end B

end K01

namespace K01
open PySem L2 Xg
/-! ### what a kind is, of data -/
abbrev big : Int := 999999999999999999
def wholeB (d : PyData) (lo hi : Int) : Bool := match d with
  | .int i => decide (lo ≤ i) && decide (i ≤ hi)
  | _ => false
def textB : PyData → Bool
  | .str x => okText x
  | _ => false
def wordB : PyData → Bool
  | .str x => okText x && (decide ((1 : Int) ≤ x.length) && decide ((x.length : Int) ≤ 20))
  | _ => false
def strOf : PyData → Str
  | .str x => x
  | _ => Str.empty
def wordsB : PyData → Bool
  | .tuple ds => if decide ((1 : Int) ≤ ds.length) && decide ((ds.length : Int) ≤ 20) then (ds.all wordB && decide ((once (ds.map strOf)).length = ds.length)) else false
  | _ => false
def boundsB (a b : PyData) : Bool := wholeB a (-big) big && (match a with
  | .int i => wholeB b i big
  | _ => false)
mutual
def ws : PyData → Nat
  | .none => 10
  | .bool _ => 10
  | .int i => i.natAbs.log2 + 10
  | .str x => 10 * x.length + 10
  | .list xs => 10 + wss xs
  | .tuple xs => 10 + wss xs
  | .dict _ => 10
def wss : List PyData → Nat
  | [] => 0
  | x :: xs => ws x + 2 + wss xs
end

section
variable {P : Program} {w : World} {K : PySem.W.Frag} {mg : Str → Option Value} {base : Heap}
/-- the first names: the value, its data -/
def numB : PyData → Bool
  | .int _ => true
  | _ => false
def sp_is_number : Sp := fun vs H Q _ => ∃ x d, vs = [x] ∧ Dt H x d ∧ Q (.bl (numB d)) H
theorem ok_is_number (T : Tx K mg) (F : FunAt K mg "is_number" s_is_number ["value"]) : Has P w K mg base "is_number" 1 ["value"] sp_is_number := by
  refine Has.mk' F sc_is_number (fun vs H Q E h => ?_) (fun f cdv A outer s H vs Q E hr h => ?_)
  · obtain ⟨x, d, rfl, _⟩ := h
    rfl
  · obtain ⟨x, d, rfl, dt, q⟩ := h
    refine ⟨_, (pss_one (ps_ret (pe_and (pe_callB call_isD rfl T.z_isinstance B.isinstance (pa_cons (pv 0) (pa_cons (pe_ty rfl T.z_int B.int) pa_nil))) (pe_one (pe_not (pe_callB call_isD rfl T.z_isinstance B.isinstance (pa_cons (pv 0) (pa_cons (pe_ty rfl T.z_bool B.bool) pa_nil)))))))), ?_⟩
    refine ⟨x, rfl, x, "int", d, rfl, by simp, dt, _, rfl, ?_⟩
    cases dt with
    | int i => exact ⟨_, rfl, _, "bool", _, rfl, by simp, .int i, _, rfl, q⟩
    | bl b => exact ⟨_, rfl, _, "bool", _, rfl, by simp, .bl b, _, rfl, q⟩
    | _ => exact q

def sp_is_whole : Sp := fun vs H Q _ => ∃ x d lo hi, vs = [x, .int lo, .int hi] ∧ Dt H x d ∧ Q (.bl (wholeB d lo hi)) H
theorem ok_is_whole (T : Tx K mg) (F : FunAt K mg "is_whole" s_is_whole ["value", "low", "high"]) (D_is_number : Has P w K mg base "is_number" 1 ["value"] sp_is_number) : Has P w K mg base "is_whole" 2 ["value", "low", "high"] sp_is_whole := by
  refine Has.mk' F sc_is_whole (fun vs H Q E h => ?_) (fun f cdv A outer s H vs Q E hr h => ?_)
  · obtain ⟨x, d, lo, hi, rfl, _⟩ := h
    rfl
  · obtain ⟨x, d, lo, hi, rfl, dt, q⟩ := h
    have hr_is_number := hr
    refine ⟨_, (pss_one (ps_ret (pe_and (pe_own D_is_number hr_is_number rfl (pa_cons (pv 0) pa_nil)) (pe_one (pe_chain opLeA opLeA (pv 1) (pv 0) (pv 2)))))), ?_⟩
    refine ⟨x, rfl, x, d, rfl, dt, _, rfl, ?_⟩
    cases dt with
    | int i =>
      refine ⟨_, rfl, _, rfl, .inl ⟨_, _, rfl, rfl, _, rfl, ?_⟩⟩
      by_cases h1 : lo ≤ i
      · rw [decide_eq_true h1]
        refine ⟨_, rfl, .inl ⟨_, _, rfl, rfl, ?_⟩⟩
        simpa only [wholeB, decide_eq_true h1, Bool.true_and] using q
      · rw [decide_eq_false h1]
        show Q (.bl false) H
        simpa only [wholeB, decide_eq_false h1, Bool.false_and] using q
    | _ => exact q

def sp_is_plain : Sp := fun vs H Q _ => ∃ z : Str, vs = [.str z] ∧ z.length ≤ 10000 ∧ ∀ H', Same H H' → Q (.bl (okText z)) H'
theorem ok_is_plain (T : Tx K mg) (F : FunAt K mg "is_plain" s_is_plain ["string"]) : Has P w K mg base "is_plain" 1 ["string"] sp_is_plain := by
  refine Has.mk' F sc_is_plain (fun vs H Q E h => ?_) (fun f cdv A outer s H vs Q E hr h => ?_)
  · obtain ⟨z, rfl, _⟩ := h
    rfl
  · obtain ⟨z, rfl, zl, q⟩ := h
    refine ⟨_, (pss_cons (ps_set (i := 1) sc_is_plain.nd rfl (Or.inl rfl) (pe_bm PySem.F.plainAttrs_str PySem.F.slot_str_translate PySem.F.type_str_translate (mt_tr rfl) (pv 0) (pa_cons (pe_disp (pps_cons pe_int pe_int (pps_cons pe_int pe_int pps_nil)) rfl rfl (by simp) (by decide)) pa_nil)))
      (pss_one (ps_ret (pe_and (pe_bm0 PySem.F.plainAttrs_str PySem.F.slot_str_isascii PySem.F.type_str_isascii mt_isascii (pv 1)) (pe_one (pe_bm0 PySem.F.plainAttrs_str PySem.F.slot_str_isprintable PySem.F.type_str_isprintable mt_isprintable (pv 1))))))), ?_⟩
    refine ⟨_, rfl, rfl, fun p hp => ?_⟩
    refine ⟨upd_same, [(.inl 10, .int 32), (.inl 37, .int 10)], rfl, by decide, z, p, rfl, rfl, ?_, by omega, ?_⟩
    · rw [upd_same]
      rfl
    refine ⟨_, rfl, rfl, _, rfl, rfl, trivial, _, rfl, ?_⟩
    have e := tr_ok z
    have s1 : Same H (upd (upd H p (.dK [])) p (.dK (mergeK [] [(.inl 10, .int 32), (.inl 37, .int 10)]))) := Same.mut (Same.new hp) hp
    cases h1 : Txt.isascii (trText z) with
    | true =>
      refine ⟨_, rfl, rfl, _, rfl, rfl, trivial, ?_⟩
      have q1 := q _ s1
      rw [h1, Bool.true_and] at e
      rw [e]
      exact q1
    | false =>
      show Q (.bl false) _
      have q1 := q _ s1
      rw [h1, Bool.false_and] at e
      rw [← e] at q1
      exact q1

def sp_is_text : Sp := fun vs H Q _ => ∃ x d, vs = [x] ∧ Dt H x d ∧ ws d ≤ 100000 ∧ ∀ H', Same H H' → Q (.bl (textB d)) H'
theorem ok_is_text (T : Tx K mg) (F : FunAt K mg "is_text" s_is_text ["value"]) (D_is_plain : Has P w K mg base "is_plain" 1 ["string"] sp_is_plain) : Has P w K mg base "is_text" 2 ["value"] sp_is_text := by
  refine Has.mk' F sc_is_text (fun vs H Q E h => ?_) (fun f cdv A outer s H vs Q E hr h => ?_)
  · obtain ⟨x, d, rfl, _⟩ := h
    rfl
  · obtain ⟨x, d, rfl, dt, sm, q⟩ := h
    have hr_is_plain := hr
    refine ⟨_, (pss_one (ps_ret (pe_and (pe_callB call_isD rfl T.z_isinstance B.isinstance (pa_cons (pv 0) (pa_cons (pe_ty rfl T.z_str B.str) pa_nil))) (pe_and (pe_cmpR opLeA (pe_callB callLenA rfl T.z_len B.len (pa_cons (pv 0) pa_nil)) (pe_gint rfl T.c_MOST_CHARACTERS) (nomark _)) (pe_one (pe_own D_is_plain hr_is_plain rfl (pa_cons (pv 0) pa_nil))))))), ?_⟩
    refine ⟨x, rfl, x, "str", d, rfl, by simp, dt, _, rfl, ?_⟩
    cases dt with
    | str z =>
      have zl : z.length ≤ 10000 := by
        simp only [ws] at sm
        omega
      refine ⟨_, rfl, .inr ⟨z, rfl, Nat.le_trans zl (by decide), .inl ⟨_, _, rfl, rfl, _, rfl, ?_⟩⟩⟩
      rw [decide_eq_true (show (z.length : Int) ≤ 20000 by omega)]
      exact ⟨_, rfl, z, rfl, zl, q⟩
    | _ => exact q H (Same.refl H)

def sp_are_different : Sp := fun vs H Q _ => ∃ p xs, vs = [.ref p] ∧ SqT K H p (xs.map V.str) ∧ xs.length ≤ 1000 ∧ Q (.bl (decide ((once xs).length = xs.length))) H
theorem ok_are_different (T : Tx K mg) (F : FunAt K mg "are_different" s_are_different ["strings"]) : Has P w K mg base "are_different" 1 ["strings"] (sp_are_different (K := K)) := by
  refine Has.mk' F sc_are_different (fun vs H Q E h => ?_) (fun f cdv A outer s H vs Q E hr h => ?_)
  · obtain ⟨p, xs, rfl, _⟩ := h
    rfl
  · obtain ⟨p, xs, rfl, tup, few, q⟩ := h
    have hu : (bodyCx P w K mg base N_are_different "are_different" s_are_different f cdv A outer s H E).A.units + 64 < cLine := hr.units
    refine ⟨_, (pss_one (ps_ret (pe_cmpR (opEqA (by exact hu)) (pe_lenSetT rfl rfl T.z_len rfl T.z_set (pv 0)) (pe_callB callLenA rfl T.z_len B.len (pa_cons (pv 0) pa_nil)) (nomark _)))), ?_⟩
    refine ⟨_, rfl, p, xs, rfl, tup, by omega, _, rfl, .inl ⟨p, _, rfl, .inr tup, .inl ⟨rfl, ?_⟩⟩⟩
    rw [List.length_map]
    have e : decide (V.int ((once xs).length : Nat) = V.int (xs.length : Nat)) = decide ((once xs).length = xs.length) := by
      by_cases z : (once xs).length = xs.length
      · rw [z]; simp
      · rw [decide_eq_false z, decide_eq_false]
        intro y
        have := V.int.inj y
        omega
    rw [e]
    exact q

theorem same_text {d : PyData} (h : wordB d = true) : ∃ x, d = .str x := by
  cases d with
  | str x => exact ⟨x, rfl⟩
  | _ => cases h
def sp_are_bounds : Sp := fun vs H Q _ => ∃ x y d e, vs = [x, y] ∧ Dt H x d ∧ Dt H y e ∧ Q (.bl (boundsB d e)) H
theorem ok_are_bounds (T : Tx K mg) (F : FunAt K mg "are_bounds" s_are_bounds ["low", "high"]) (D_is_whole : Has P w K mg base "is_whole" 2 ["value", "low", "high"] sp_is_whole) :
    Has P w K mg base "are_bounds" 3 ["low", "high"] sp_are_bounds := by
  refine Has.mk' F sc_are_bounds (fun vs H Q E h => ?_) (fun f cdv A outer s H vs Q E hr h => ?_)
  · obtain ⟨x, y, d, e, rfl, _⟩ := h
    rfl
  · obtain ⟨x, y, d, e, rfl, dx, dy, q⟩ := h
    have hr_is_whole := hr
    refine ⟨_, (pss_one (ps_ret (pe_and (pe_own D_is_whole hr_is_whole rfl (pa_cons (pv 0) (pa_cons (pe_un un_neg (pe_gint rfl T.c_GREATEST)) (pa_cons (pe_gint rfl T.c_GREATEST) pa_nil)))) (pe_one (pe_own D_is_whole hr_is_whole rfl (pa_cons (pv 1) (pa_cons (pv 0) (pa_cons (pe_gint rfl T.c_GREATEST) pa_nil)))))))), ?_⟩
    refine ⟨x, rfl, _, rfl, x, d, _, _, rfl, dx, _, rfl, ?_⟩
    cases dx with
    | int i =>
      cases hw : wholeB (.int i) (-999999999999999999) 999999999999999999 with
      | true =>
        refine ⟨y, rfl, _, rfl, y, e, _, _, rfl, dy, ?_⟩
        simpa only [boundsB, hw, Bool.true_and] using q
      | false =>
        show Q (.bl false) H
        simpa only [boundsB, hw, Bool.false_and] using q
    | _ => exact q

def sp_is_word : Sp := fun vs H Q _ => ∃ x d, vs = [x] ∧ Dt H x d ∧ ws d ≤ 100000 ∧ ∀ H', Same H H' → Q (.bl (wordB d)) H'
theorem ok_is_word (T : Tx K mg) (F : FunAt K mg "is_word" s_is_word ["value"]) (D_is_text : Has P w K mg base "is_text" 2 ["value"] sp_is_text) :
    Has P w K mg base "is_word" 3 ["value"] sp_is_word := by
  refine Has.mk' F sc_is_word (fun vs H Q E h => ?_) (fun f cdv A outer s H vs Q E hr h => ?_)
  · obtain ⟨x, d, rfl, _⟩ := h
    rfl
  · obtain ⟨x, d, rfl, dt, sm, q⟩ := h
    have hr_is_text := hr
    refine ⟨_, (pss_one (ps_ret (pe_and (pe_own D_is_text hr_is_text rfl (pa_cons (pv 0) pa_nil)) (pe_one (pe_chain opLeA opLeA pe_int (pe_callB callLenA rfl T.z_len B.len (pa_cons (pv 0) pa_nil)) (pe_gint rfl T.c_MOST_IN_WORD)))))), ?_⟩
    refine ⟨x, rfl, x, d, rfl, dt, sm, fun H1 s1 => ⟨_, rfl, ?_⟩⟩
    have q1 := q H1 s1
    cases dt with
    | str z =>
      have zl : z.length ≤ 10000 := by
        simp only [ws] at sm
        omega
      cases ht : okText z with
      | true =>
        rw [show textB (.str z) = okText z from rfl, ht]
        refine ⟨_, rfl, .inr ⟨z, rfl, Nat.le_trans zl (by decide), .inl ⟨_, _, rfl, rfl, _, rfl, ?_⟩⟩⟩
        by_cases h1 : (1 : Int) ≤ z.length
        · rw [decide_eq_true h1]
          refine .inl ⟨_, _, rfl, rfl, ?_⟩
          simpa only [wordB, ht, decide_eq_true h1, Bool.true_and] using q1
        · rw [decide_eq_false h1]
          show Q (.bl false) H1
          simpa only [wordB, ht, decide_eq_false h1, Bool.true_and, Bool.false_and] using q1
      | false =>
        rw [show textB (.str z) = okText z from rfl, ht]
        show Q (.bl false) H1
        simpa only [wordB, ht, Bool.false_and] using q1
    | _ => exact q1

theorem ws_mem {ds : List PyData} {d : PyData} (h : d ∈ ds) : ws d ≤ wss ds := by
  induction ds with
  | nil => cases h
  | cons x xs ih =>
    simp only [wss]
    rcases List.mem_cons.mp h with rfl | h
    · omega
    · have := ih h
      omega
theorem ws_len : ∀ ds : List PyData, 2 * ds.length ≤ wss ds
  | [] => by simp [wss]
  | x :: xs => by
    have := ws_len xs
    simp only [wss, List.length_cons]
    omega
theorem all_texts {H : Hp} : ∀ {ds : List PyData} {vs : List V}, Dts H vs ds → ds.all wordB = true → vs = (ds.map strOf).map V.str
  | _, _, .nil, _ => rfl
  | _, _, .cons h r, e => by
    rw [List.all_cons, Bool.and_eq_true] at e
    obtain ⟨x, rfl⟩ := same_text e.1
    cases h
    rw [List.map_cons, List.map_cons, ← all_texts r e.2]
    rfl
/-- the items of a walked tuple, by their data -/
theorem all_list {α : Type} (l : List α) (f : α → Bool) (d : α) : ((List.range l.length).map fun i => f (l.getD i d)).all id = l.all f := by
  induction l with
  | nil => rfl
  | cons a l ih =>
    rw [List.length_cons, List.range_succ_eq_map, List.map_cons, List.all_cons, List.map_map, List.all_cons, ← ih]
    rfl

def sp_are_words : Sp := fun vs H Q _ => ∃ x d, vs = [x] ∧ Dt H x d ∧ ws d ≤ 100000 ∧ ∀ H', Same H H' → Q (.bl (wordsB d)) H'
theorem ok_are_words (T : Tx K mg) (F : FunAt K mg "are_words" s_are_words ["value"]) (D_is_word : Has P w K mg base "is_word" 3 ["value"] sp_is_word)
    (D_are_different : Has P w K mg base "are_different" 1 ["strings"] (sp_are_different (K := K))) : Has P w K mg base "are_words" 4 ["value"] sp_are_words := by
  refine Has.mk' F sc_are_words (fun vs H Q E h => ?_) (fun f cdv A outer s H vs Q E hr h => ?_)
  · obtain ⟨x, d, rfl, _⟩ := h
    rfl
  · obtain ⟨x, d, rfl, dt, sm, q⟩ := h
    have hr_is_word := hr
    have hr_are_different := hr.mono (show 1 ≤ 3 by decide)
    refine ⟨_, (pss_cons (ps_if (PW.pt (pw_or (pt_not (pt_val (pe_callB call_isD rfl T.z_isinstance B.isinstance (pa_cons (pv 0) (pa_cons (pe_ty rfl T.z_tuple B.tuple) pa_nil))))) (pw_or1 (pt_not (pt_chain opLeA opLeA pe_int (pe_callB callLenA rfl T.z_len B.len (pa_cons (pv 0) pa_nil)) (pe_gint rfl T.c_MOST_WORDS))))))
        (pss_one (ps_ret pe_bl))
        pss_nil)
      (pss_one (ps_ret (pe_and (pe_callB (cr_all rfl) rfl T.z_all B.all (pa_cons (pe_lc (own := [("word", 1)]) (g := gName 1) (tt := tYes) rfl sc_are_words.nd (pi_tup (pv 0)) (blkOk_by (N := N_are_words) (sc := defScope s_are_words) (by decide +kernel)) (fun _ _ _ _ _ => pg_name (i := 1) sc_are_words.nd rfl (Or.inl rfl)) (fun _ _ _ _ _ => pts_nil) (fun _ _ _ _ _ => (pe_own D_is_word hr_is_word rfl (pa_cons (pv 1) pa_nil)))) pa_nil)) (pe_one (pe_own D_are_different hr_are_different rfl (pa_cons (pv 0) pa_nil))))))), ?_⟩
    refine ⟨x, rfl, x, "tuple", d, rfl, by simp, dt, _, rfl, ?_⟩
    cases dt with
    | @tup a xs ds e r =>
      have el := r.length
      have few := ws_len ds
      simp only [ws] at sm
      have tup : SqT K H a xs := .inl (.inl e)
      refine ⟨_, rfl, .inl ⟨a, xs, rfl, .inr tup, .inl ⟨_, _, rfl, rfl, _, rfl, ?_⟩⟩⟩
      rw [el]
      have q0 : ∀ H', Same H H' → Q (.bl (if decide ((1 : Int) ≤ ds.length) && decide ((ds.length : Int) ≤ 20) then (ds.all wordB && decide ((once (ds.map strOf)).length = ds.length)) else false)) H' := q
      by_cases h1 : (1 : Int) ≤ ds.length
      · rw [decide_eq_true h1]
        rw [decide_eq_true h1, Bool.true_and] at q0
        refine .inl ⟨_, _, rfl, rfl, _, rfl, ?_⟩
        by_cases h2 : (ds.length : Int) ≤ 20
        · rw [decide_eq_true h2] at q0 ⊢
          refine ⟨_, rfl, a, rfl, ⟨xs, tup⟩, fun D hD => ?_⟩
          refine lc_pure (j := 1) (walk_tup (K := K) (a := a) (xs := xs)) rfl (fun i => .bl (wordB (ds.getD i .none))) (by rw [el]; exact Nat.lt_of_le_of_lt (show ds.length ≤ 100 by omega) (by decide)) hD (fun H1 s1 => Same.seqT s1 tup) (fun i x H1 H2 hi s1 y => ?_) (fun H1 s1 hL => ?_)
          · obtain ⟨rfl, hx⟩ := y
            refine ⟨rfl, fun Q' q' => ?_⟩
            obtain ⟨d, hd, dd⟩ := (Dts.same s1 r).get hx
            refine ⟨x, rfl, x, d, rfl, dd, ?_, fun H3 s3 => ?_⟩
            · have := ws_mem (List.mem_of_getElem? hd)
              omega
            · have := q' H3 s3
              rw [List.getD_eq_getElem?_getD, hd] at this
              exact this
          · refine ⟨D, (List.range xs.length).map fun i => wordB (ds.getD i .none), rfl, .inl (.inl (by rw [hL, List.map_map]; rfl)), ?_⟩
            rw [el, all_list ds wordB .none]
            refine ⟨_, rfl, ?_⟩
            cases ha : ds.all wordB with
            | true =>
              rw [ha, Bool.true_and] at q0
              have ex := all_texts r ha
              refine ⟨_, rfl, a, ds.map strOf, rfl, ?_, by rw [List.length_map]; omega, ?_⟩
              · rw [← ex]
                exact Same.seqT s1 tup
              · rw [List.length_map]
                exact q0 H1 s1
            | false =>
              rw [ha, Bool.false_and] at q0
              exact q0 H1 s1
        · rw [decide_eq_false h2] at q0 ⊢
          exact q0 H (Same.refl H)
      · rw [decide_eq_false h1]
        refine ⟨_, rfl, ?_⟩
        rw [decide_eq_false h1] at q0
        exact q0 H (Same.refl H)
    | _ => exact q H (Same.refl H)

theorem eqS (a b : Str) : decide (V.str a = V.str b) = decide (a = b) := by
  by_cases h : a = b
  · rw [h]; simp
  · rw [decide_eq_false h, decide_eq_false fun z => h (V.str.inj z)]
theorem eqI (a b : Int) : decide (V.int a = V.int b) = decide (a = b) := by
  by_cases h : a = b
  · rw [h]; simp
  · rw [decide_eq_false h, decide_eq_false fun z => h (V.int.inj z)]
/-- behind the word of a kind -/
def tailB (w : Str) (r : List PyData) : Bool :=
  if w = "int" then (match r with | [a, b] => boundsB a b | _ => false)
  else if w = "decimal" then (match r with | [a, b, c] => boundsB a b && wholeB c 1 9 | _ => false)
  else if w = "text" then (match r with | [a] => wholeB a 1 1000 | _ => false)
  else if w = "choice" then (match r with | [a] => wordsB a | _ => false)
  else (match r with | [] => decide (w = "truth") || decide (w = "date") | _ => false)
def kindB : PyData → Bool
  | .tuple (.str w :: r) => tailB w r
  | _ => false
def sp_is_kind : Sp := fun vs H Q _ => ∃ x d, vs = [x] ∧ Dt H x d ∧ ws d ≤ 100000 ∧ ∀ H', Same H H' → Q (.bl (kindB d)) H'
theorem at0 {v : V} {r : List V} : atI (v :: r) 0 = some v := by
  unfold atI ixN
  rw [if_pos (by omega), if_pos (by simp)]
  rfl
theorem ok_is_kind (T : Tx K mg) (F : FunAt K mg "is_kind" s_is_kind ["value"]) (D_is_whole : Has P w K mg base "is_whole" 2 ["value", "low", "high"] sp_is_whole)
    (D_are_bounds : Has P w K mg base "are_bounds" 3 ["low", "high"] sp_are_bounds) (D_are_words : Has P w K mg base "are_words" 4 ["value"] sp_are_words) :
    Has P w K mg base "is_kind" 5 ["value"] sp_is_kind := by
  refine Has.mk' F sc_is_kind (fun vs H Q E h => ?_) (fun f cdv A outer s H vs Q E hr h => ?_)
  · obtain ⟨x, d, rfl, _⟩ := h
    rfl
  · obtain ⟨x, d, rfl, dt, sm, q⟩ := h
    have hr_are_words := hr
    have hr_are_bounds := hr.mono (show 3 ≤ 4 by decide)
    have hr_is_whole := hr.mono (show 2 ≤ 4 by decide)
    have hu : (bodyCx P w K mg base N_is_kind "is_kind" s_is_kind f cdv A outer s H E).A.units + 64 < cLine := hr.units
    refine ⟨_, (pss_cons (ps_if (PW.pt (pw_or (pt_not (pt_val (pe_callB call_isD rfl T.z_isinstance B.isinstance (pa_cons (pv 0) (pa_cons (pe_ty rfl T.z_tuple B.tuple) pa_nil))))) (pw_or (pt_cmpR (opEqA (by exact hu)) (pe_callB callLenA rfl T.z_len B.len (pa_cons (pv 0) pa_nil)) pe_int (nomark _)) (pw_or1 (pt_not (pt_val (pe_callB call_isD rfl T.z_isinstance B.isinstance (pa_cons (pe_ix ix_seq (pv 0) pe_int (fun _ _ => rfl)) (pa_cons (pe_ty rfl T.z_str B.str) pa_nil)))))))))
        (pss_one (ps_ret pe_bl))
        pss_nil)
      (pss_cons (ps_set (i := 1) sc_is_kind.nd rfl (Or.inl rfl) (pe_ix ix_seq (pv 0) pe_int (fun _ _ => rfl)))
      (pss_cons (ps_if (pt_cmpR (opEqA (by exact hu)) (pv 1) pe_str (nomark _))
        (pss_one (ps_ret (pe_and (pe_cmpR (opEqA (by exact hu)) (pe_callB callLenA rfl T.z_len B.len (pa_cons (pv 0) pa_nil)) pe_int (nomark _)) (pe_one (pe_own D_are_bounds hr_are_bounds rfl (pa_cons (pe_ix ix_seq (pv 0) pe_int (fun _ _ => rfl)) (pa_cons (pe_ix ix_seq (pv 0) pe_int (fun _ _ => rfl)) pa_nil)))))))
        pss_nil)
      (pss_cons (ps_if (pt_cmpR (opEqA (by exact hu)) (pv 1) pe_str (nomark _))
        (pss_one (ps_ret (pe_and (pe_cmpR (opEqA (by exact hu)) (pe_callB callLenA rfl T.z_len B.len (pa_cons (pv 0) pa_nil)) pe_int (nomark _)) (pe_and (pe_own D_are_bounds hr_are_bounds rfl (pa_cons (pe_ix ix_seq (pv 0) pe_int (fun _ _ => rfl)) (pa_cons (pe_ix ix_seq (pv 0) pe_int (fun _ _ => rfl)) pa_nil))) (pe_one (pe_own D_is_whole hr_is_whole rfl (pa_cons (pe_ix ix_seq (pv 0) pe_int (fun _ _ => rfl)) (pa_cons pe_int (pa_cons (pe_gint rfl T.c_MOST_PLACES) pa_nil)))))))))
        pss_nil)
      (pss_cons (ps_if (pt_cmpR (opEqA (by exact hu)) (pv 1) pe_str (nomark _))
        (pss_one (ps_ret (pe_and (pe_cmpR (opEqA (by exact hu)) (pe_callB callLenA rfl T.z_len B.len (pa_cons (pv 0) pa_nil)) pe_int (nomark _)) (pe_one (pe_own D_is_whole hr_is_whole rfl (pa_cons (pe_ix ix_seq (pv 0) pe_int (fun _ _ => rfl)) (pa_cons pe_int (pa_cons (pe_gint rfl T.c_MOST_IN_TEXT) pa_nil))))))))
        pss_nil)
      (pss_cons (ps_if (pt_cmpR (opEqA (by exact hu)) (pv 1) pe_str (nomark _))
        (pss_one (ps_ret (pe_and (pe_cmpR (opEqA (by exact hu)) (pe_callB callLenA rfl T.z_len B.len (pa_cons (pv 0) pa_nil)) pe_int (nomark _)) (pe_one (pe_own D_are_words hr_are_words rfl (pa_cons (pe_ix ix_seq (pv 0) pe_int (fun _ _ => rfl)) pa_nil))))))
        pss_nil)
      (pss_one (ps_ret (pe_and (pe_cmpR (opEqA (by exact hu)) (pe_callB callLenA rfl T.z_len B.len (pa_cons (pv 0) pa_nil)) pe_int (nomark _)) (pe_one (pe_cmpR op_in_seq (pv 1) (pe_tup (pa_cons pe_str (pa_cons pe_str pa_nil))) (by with_unfolding_all rfl)))))))))))), ?_⟩
    refine ⟨x, rfl, x, "tuple", d, rfl, by simp, dt, _, rfl, ?_⟩
    cases dt with
    | @tup a xs ds e r =>
      have tup : SqT K H a xs := .inl (.inl e)
      simp only [ws] at sm
      refine ⟨_, rfl, .inl ⟨a, xs, rfl, .inr tup, .inl ⟨rfl, _, rfl, ?_⟩⟩⟩
      cases r with
      | nil => exact q H (Same.refl H)
      | @cons v vs d ds hd hds =>
        have few := ws_len ds
        have el := hds.length
        simp only [wss] at sm
        have ne0 : decide (V.int (((v :: vs).length : Nat) : Int) = V.int 0) = false := by
          rw [eqI]
          exact decide_eq_false (by rw [List.length_cons]; omega)
        rw [ne0]
        refine ⟨_, rfl, .inr (.inl ⟨a, _, 0, v, rfl, rfl, tup, at0, v, "str", d, rfl, by simp, hd, _, rfl, ?_⟩)⟩
        cases hd with
        | str w =>
          refine ⟨_, rfl, .inr (.inl ⟨a, _, 0, .str w, rfl, rfl, tup, at0, ?_⟩)⟩
          have q0 : ∀ H', Same H H' → Q (.bl (tailB w ds)) H' := q
          have lenv : ((((V.str w) :: vs).length : Nat) : Int) = (ds.length : Int) + 1 := by
            rw [List.length_cons, el, Int.natCast_add] <;> rfl
          refine ⟨_, rfl, .inl ⟨rfl, _, rfl, ?_⟩⟩
          rw [eqS]
          by_cases w1 : w = "int"
          · rw [decide_eq_true w1]
            refine ⟨_, rfl, .inl ⟨a, _, rfl, .inr tup, .inl ⟨rfl, ?_⟩⟩⟩
            rw [eqI, lenv]
            unfold tailB at q0
            rw [if_pos w1] at q0
            by_cases hl : (ds.length : Int) + 1 = 3
            · rw [decide_eq_true hl]
              match ds, vs, hds, hl with
              | [d1, d2], [v1, v2], .cons h1 (.cons h2 .nil), _ =>
                refine ⟨_, rfl, _, rfl, .inr (.inl ⟨a, _, 1, v1, rfl, rfl, tup, rfl, ?_⟩)⟩
                refine ⟨_, rfl, .inr (.inl ⟨a, _, 2, v2, rfl, rfl, tup, rfl, ?_⟩)⟩
                exact ⟨v1, v2, d1, d2, rfl, h1, h2, q0 H (Same.refl H)⟩
            · rw [decide_eq_false hl]
              have z := q0 H (Same.refl H)
              match ds, hl with
              | [], _ => exact ⟨_, rfl, z⟩
              | [_], _ => exact ⟨_, rfl, z⟩
              | _ :: _ :: _ :: _, _ => exact ⟨_, rfl, z⟩
          rw [decide_eq_false w1]
          refine ⟨_, rfl, .inl ⟨rfl, _, rfl, ?_⟩⟩
          rw [eqS]
          unfold tailB at q0
          rw [if_neg w1] at q0
          by_cases w2 : w = "decimal"
          · rw [decide_eq_true w2]
            refine ⟨_, rfl, .inl ⟨a, _, rfl, .inr tup, .inl ⟨rfl, ?_⟩⟩⟩
            rw [eqI, lenv]
            rw [if_pos w2] at q0
            by_cases hl : (ds.length : Int) + 1 = 4
            · rw [decide_eq_true hl]
              match ds, vs, hds, hl with
              | [d1, d2, d3], [v1, v2, v3], .cons h1 (.cons h2 (.cons h3 .nil)), _ =>
                refine ⟨_, rfl, _, rfl, .inr (.inl ⟨a, _, 1, v1, rfl, rfl, tup, rfl, ?_⟩)⟩
                refine ⟨_, rfl, .inr (.inl ⟨a, _, 2, v2, rfl, rfl, tup, rfl, ?_⟩)⟩
                refine ⟨v1, v2, d1, d2, rfl, h1, h2, _, rfl, ?_⟩
                have z := q0 H (Same.refl H)
                cases hb : boundsB d1 d2 with
                | true =>
                  refine ⟨_, rfl, .inr (.inl ⟨a, _, 3, v3, rfl, rfl, tup, rfl, ?_⟩)⟩
                  refine ⟨v3, d3, _, _, rfl, h3, ?_⟩
                  simpa only [hb, Bool.true_and] using z
                | false =>
                  show Q (.bl false) H
                  simpa only [hb, Bool.false_and] using z
            · rw [decide_eq_false hl]
              have z := q0 H (Same.refl H)
              match ds, hl with
              | [], _ => exact ⟨_, rfl, z⟩
              | [_], _ => exact ⟨_, rfl, z⟩
              | [_, _], _ => exact ⟨_, rfl, z⟩
              | _ :: _ :: _ :: _ :: _, _ => exact ⟨_, rfl, z⟩
          rw [decide_eq_false w2]
          refine ⟨_, rfl, .inl ⟨rfl, _, rfl, ?_⟩⟩
          rw [eqS]
          rw [if_neg w2] at q0
          by_cases w3 : w = "text"
          · rw [decide_eq_true w3]
            refine ⟨_, rfl, .inl ⟨a, _, rfl, .inr tup, .inl ⟨rfl, ?_⟩⟩⟩
            rw [eqI, lenv]
            rw [if_pos w3] at q0
            by_cases hl : (ds.length : Int) + 1 = 2
            · rw [decide_eq_true hl]
              match ds, vs, hds, hl with
              | [d1], [v1], .cons h1 .nil, _ =>
                refine ⟨_, rfl, _, rfl, .inr (.inl ⟨a, _, 1, v1, rfl, rfl, tup, rfl, ?_⟩)⟩
                exact ⟨v1, d1, _, _, rfl, h1, q0 H (Same.refl H)⟩
            · rw [decide_eq_false hl]
              have z := q0 H (Same.refl H)
              match ds, hl with
              | [], _ => exact ⟨_, rfl, z⟩
              | _ :: _ :: _, _ => exact ⟨_, rfl, z⟩
          rw [decide_eq_false w3]
          refine ⟨_, rfl, .inl ⟨rfl, _, rfl, ?_⟩⟩
          rw [eqS]
          rw [if_neg w3] at q0
          by_cases w4 : w = "choice"
          · rw [decide_eq_true w4]
            refine ⟨_, rfl, .inl ⟨a, _, rfl, .inr tup, .inl ⟨rfl, ?_⟩⟩⟩
            rw [eqI, lenv]
            rw [if_pos w4] at q0
            by_cases hl : (ds.length : Int) + 1 = 2
            · rw [decide_eq_true hl]
              match ds, vs, hds, hl, sm, q0 with
              | [d1], [v1], .cons h1 .nil, _, sm, q0 =>
                refine ⟨_, rfl, _, rfl, .inr (.inl ⟨a, _, 1, v1, rfl, rfl, tup, rfl, ?_⟩)⟩
                simp only [wss] at sm
                exact ⟨v1, d1, rfl, h1, by omega, q0⟩
            · rw [decide_eq_false hl]
              have z := q0 H (Same.refl H)
              match ds, hl with
              | [], _ => exact ⟨_, rfl, z⟩
              | _ :: _ :: _, _ => exact ⟨_, rfl, z⟩
          rw [decide_eq_false w4]
          rw [if_neg w4] at q0
          refine ⟨_, rfl, .inl ⟨a, _, rfl, .inr tup, .inl ⟨rfl, ?_⟩⟩⟩
          rw [eqI, lenv]
          by_cases hl : (ds.length : Int) + 1 = 1
          · rw [decide_eq_true hl]
            match ds, vs, hds, hl, q0 with
            | [], [], .nil, _, q0 =>
              refine ⟨_, rfl, _, rfl, by decide, fun p hp => ?_⟩
              refine ⟨p, _, rfl, .inr (.inl (.inl upd_same)), rfl, rfl, ?_⟩
              have e : inV (.str w) [.str "truth", .str "date"] = (decide (w = "truth") || decide (w = "date")) := by
                unfold inV
                have one : ∀ b : Str, eqV (.str b) (.str w) = decide (w = b) := fun b => by
                  show (b == w) = decide (w = b)
                  by_cases z : w = b
                  · rw [z]; simp
                  · rw [decide_eq_false z]
                    exact beq_eq_false_iff_ne.mpr fun y => z y.symm
                simp only [List.any_cons, List.any_nil, Bool.or_false, one]
              show Q (.bl (inV (.str w) [.str "truth", .str "date"])) _
              rw [e]
              exact q0 _ (Same.new hp)
          · rw [decide_eq_false hl]
            have z := q0 H (Same.refl H)
            match ds, hl with
            | _ :: _, _ => exact ⟨_, rfl, z⟩
        | _ => exact q H (Same.refl H)
    | _ => exact q H (Same.refl H)
end
end K01

namespace K01
open PySem L2 Xg
/-! ### the drawing functions -/
def src (c : Addr) (k l : Int) : List (Key × V) := [(.inr "cells", .ref c), (.inr "at", .int k), (.inr "left", .int l)]
theorem src_cells (c : Addr) (k l : Int) : valV (src c k l) (.inr "cells") = some (.ref c) := by rfl
theorem src_at (c : Addr) (k l : Int) : valV (src c k l) (.inr "at") = some (.int k) := by rfl
theorem src_left (c : Addr) (k l : Int) : valV (src c k l) (.inr "left") = some (.int l) := by rfl
theorem put_at (c : Addr) (k l z : Int) : putK (src c k l) (.inr "at") (.int z) = src c z l := by rfl
theorem put_left (c : Addr) (k l z : Int) : putK (src c k l) (.inr "left") (.int z) = src c k z := by rfl
/-- the state of the draws: at most k cells are used -/
structure Src (K : PySem.W.Frag) (c : Addr) (ns : List Int) (H : Hp) (m : Addr) (k : Nat) : Prop where
  ex : ∃ l : Int, H m = some (.dK (src c (k : Int) l)) ∧ SqL K H c (ns.map V.int) ∧ ns.length ≤ 63 ∧ 0 ≤ l
theorem Src.full {K : PySem.W.Frag} {c : Addr} {ns : List Int} {H : Hp} {m : Addr} {k : Nat} (s : Src K c ns H m k) : Full H m :=
  let ⟨_, e, _⟩ := s.ex
  ⟨_, _, e⟩
/-- other objects may come -/
theorem Src.same {K : PySem.W.Frag} {c : Addr} {ns : List Int} {H H' : Hp} {m : Addr} {k : Nat} (s : Src K c ns H m k) (e : Same H H') : Src K c ns H' m k :=
  let ⟨l, h1, h2, h3, h4⟩ := s.ex
  ⟨l, e _ _ h1, e.seq h2, h3, h4⟩
theorem Src.put {K : PySem.W.Frag} {H : Hp} {m : Addr} {c : Addr} {ns : List Int} {z l' : Int} {k' : Nat} (h1 : Full H m) (h2 : SqL K H c (ns.map V.int)) (h3 : ns.length ≤ 63) (hz : z = (k' : Int)) (hl : 0 ≤ l') :
    Src K c ns (upd H m (.dK (src c z l'))) m k' := by
  subst hz
  exact ⟨l', upd_same, But.seq But.at_ h1 h2, h3, hl⟩
section
variable {P : Program} {w : World} {K : PySem.W.Frag} {mg : Str → Option Value} {base : Heap} {c : Addr} {ns : List Int}
def sp_next : Sp := fun vs H Q _ => ∃ m n k, vs = [.ref m, .int n] ∧ 0 < n ∧ n < 2 ^ 60 ∧ Src K c ns H m k ∧ k ≤ 1000000000 ∧
  ∀ r k' H', 0 ≤ r → r < n → k ≤ k' → k' ≤ k + 1 → But m H H' → Src K c ns H' m k' → Q (.int r) H'
theorem small_log {z : Int} (h1 : -(2 ^ 200) < z) (h2 : z < 2 ^ 200) : z.natAbs.log2 < 400000 := by
  have : z.natAbs < 2 ^ 200 := by omega
  have := PySem.Flt.log2_lt_of (by decide : 0 < 200) this
  omega
theorem mulW {a b : Int} (a1 : -(2 ^ 200) < a) (a2 : a < 2 ^ 200) (b1 : -(2 ^ 200) < b) (b2 : b < 2 ^ 200) : CMulW a b := by
  have x := small_log a1 a2
  have y := small_log b1 b2
  unfold CMulW
  omega
theorem divW {a b : Int} (b1 : 0 < b) (b2 : b < 2 ^ 60) : CDivW a b := by
  have : b.natAbs < 2 ^ 60 := by omega
  have := PySem.Flt.log2_lt_of (by decide : 0 < 60) this
  exact ⟨b1, by omega⟩
theorem ints_dp {H : Hp} : ∀ ns : List Int, DpAll K H (ns.map V.int) (ns.map .int)
  | [] => .nil
  | n :: ns => .cons (.int n) (ints_dp ns)
theorem ints_shaped (ns : List Int) : SeqAt.shaped (.list (ns.map .int)) = true := by
  have h1 : ∀ ns : List Int, PyData.canLayAll0 (ns.map .int) = true := by
    intro ns
    induction ns with
    | nil => rfl
    | cons n ns ih => simp only [List.map_cons, PyData.canLayAll0, PyData.canLay0, ih, Bool.and_self]
  have h2 : ∀ ns : List Int, PyData.depthAll (ns.map .int) = 0 := by
    intro ns
    induction ns with
    | nil => rfl
    | cons n ns ih => simp only [List.map_cons, PyData.depthAll, PyData.depth, ih, Nat.max_self]
  unfold SeqAt.shaped
  rw [Bool.and_eq_true]
  exact ⟨by simp only [PyData.canLay0, h1], decide_eq_true (by simp only [PyData.depth, h2]; omega)⟩
theorem ints_at (ns : List Int) (i : Int) (h0 : 0 ≤ i) (h1 : i < ns.length) : ∃ z, atI (ns.map V.int) i = some (.int z) := by
  have hi : i.toNat < ns.length := by omega
  refine ⟨ns[i.toNat], ?_⟩
  unfold atI ixN
  rw [if_pos h0, if_pos (by rw [List.length_map]; exact h1)]
  show (ns.map V.int)[i.toNat]? = _
  rw [List.getElem?_map, List.getElem?_eq_getElem hi]
  rfl
theorem ok_next (T : Tx K mg) (F : FunAt K mg "_law_next" s__law_next ["_law_m", "_law_total"]) : Has P w K mg base "_law_next" 1 ["_law_m", "_law_total"] (sp_next (K := K) (c := c) (ns := ns)) := by
  refine Has.mk' F sc__law_next (fun vs H Q E h => ?_) (fun f cdv A outer s H vs Q E hr h => ?_)
  · obtain ⟨m, n, k, rfl, _⟩ := h
    rfl
  · obtain ⟨m, n, k, rfl, n1, n2, S, kb, q⟩ := h
    have hu : (bodyCx P w K mg base N__law_next "_law_next" s__law_next f cdv A outer s H E).A.units + 64 < cLine := hr.units
    have hu1 : (bodyCx P w K mg base N__law_next "_law_next" s__law_next f cdv A outer s H E).A.units + 1 < cLine := by omega
    obtain ⟨l, e, hc, few, l0⟩ := id S.ex
    have F0 := S.full
    refine ⟨_, (pss_cons (ps_if (pt_cmpR op_gt (pe_dget hu1 (pv 0) pe_str (fun _ _ => rfl)) pe_int (nomark _))
        (pss_cons (ps_set (i := 2) sc__law_next.nd rfl (Or.inl rfl) (pe_op op_mod (pe_callTy call_int1 rfl T.z_int B.int (pa_cons (pe_dget hu1 (pv 0) pe_str (fun _ _ => rfl)) pa_nil)) (pv 1)))
        (pss_cons (ps_dput hu1 (pv 0) pe_str (pe_op op_fdivW (pe_dget hu1 (pv 0) pe_str (fun _ _ => rfl)) (pv 1)) rfl)
        (pss_one (ps_ret (pv 2)))))
        pss_nil)
      (pss_cons (ps_set (i := 3) sc__law_next.nd rfl (Or.inl rfl) (pe_dget hu1 (pv 0) pe_str (fun _ _ => rfl)))
      (pss_cons (ps_dput hu1 (pv 0) pe_str (pe_op opAddA (pv 3) pe_int) rfl)
      (Evl.pss_cut (ps_set (i := 4) sc__law_next.nd rfl (Or.inl rfl) (pe_ifExp (pt_cmpR (opNeA (by exact hu)) (pe_dget hu1 (pv 0) pe_str (fun _ _ => rfl)) (pe_lstS pa_nil) (nomark _)) (pe_ix ix_seq (pe_dget hu1 (pv 0) pe_str (fun _ _ => rfl)) (pe_op op_mod (pe_callTy call_int1 rfl T.z_int B.int (pa_cons (pv 3) pa_nil)) (pe_callB callLenA rfl T.z_len B.len (pa_cons (pe_dget hu1 (pv 0) pe_str (fun _ _ => rfl)) pa_nil))) (fun _ _ => rfl)) pe_int))
      (Evl.pss_cut (ps_if (PW.pt (pw_and (pt_cmpR op_ge (pv 4) (pe_op op_pow pe_int pe_int) (nomark _)) (pw_and1 (pt_cmpR opLtA (pv 3) (pe_callB callLenA rfl T.z_len B.len (pa_cons (pe_dget hu1 (pv 0) pe_str (fun _ _ => rfl)) pa_nil)) (nomark _)))))
        (pss_cons (ps_dput hu1 (pv 0) pe_str (pe_op op_fdivW (pv 4) (pv 1)) rfl)
        (pss_one (ps_ret (pe_op op_mod (pe_callTy call_int1 rfl T.z_int B.int (pa_cons (pv 4) pa_nil)) (pv 1)))))
        pss_nil)
      (pss_cons (ps_set (i := 5) sc__law_next.nd rfl (Or.inl rfl) (pe_op opAddA (pe_op opMulA (pe_op op_mod (pe_callTy call_int1 rfl T.z_int B.int (pa_cons (pv 4) pa_nil)) pe_int) pe_int) (pe_op op_mod (pe_callTy call_int1 rfl T.z_int B.int (pa_cons (pe_op op_fdivW (pv 4) pe_int) pa_nil)) pe_int)))
      (pss_cons (ps_set (i := 5) sc__law_next.nd rfl (Or.inl rfl) (pe_op op_mod (pe_callTy call_int1 rfl T.z_int B.int (pa_cons (pe_op opAddA (pe_op opAddA (pe_op opAddA (pv 5) (pe_op opMulA (pe_op opMulA pe_int (pv 3)) (pv 3))) (pe_op opMulA pe_int (pv 3))) pe_int) pa_nil)) pe_int))
      (pss_cons (ps_set (i := 5) sc__law_next.nd rfl (Or.inl rfl) (pe_op op_mod (pe_callTy call_int1 rfl T.z_int B.int (pa_cons (pe_op opMulA (pe_op op_mod (pe_callTy call_int1 rfl T.z_int B.int (pa_cons (pe_op opMulA (pv 5) (pv 5)) pa_nil)) pe_int) pe_int) pa_nil)) pe_int))
      (pss_one (ps_ret (pe_op op_mod (pe_callTy call_int1 rfl T.z_int B.int (pa_cons (pe_op op_fdivW (pv 5) pe_int) pa_nil)) (pv 1)))))))))))), ?_⟩
    refine ⟨_, rfl, m, _, rfl, .inl ⟨_, .inr "left", .inl e, rfl, (src_left c k l).symm⟩, _, _, rfl, rfl, _, rfl, ?_⟩
    by_cases hl : 0 < l
    · rw [decide_eq_true hl]
      refine ⟨_, rfl, m, _, rfl, .inl ⟨_, .inr "left", .inl e, rfl, (src_left c k l).symm⟩, .inl ⟨l, rfl, _, rfl, l, n, rfl, rfl, n1, ?_⟩⟩
      refine ⟨_, rfl, m, _, rfl, .inl ⟨_, .inr "left", .inl e, rfl, (src_left c k l).symm⟩, _, rfl, l, n, rfl, rfl, divW n1 n2, ?_⟩
      refine ⟨_, rfl, m, _, rfl, .inl ⟨_, .inr "left", e, rfl, (show 3 < sizeLine by decide), rfl⟩, ?_⟩
      rw [put_left]
      refine ⟨_, rfl, q _ k _ (Int.emod_nonneg _ (by omega)) (Int.emod_lt_of_pos _ n1) (Nat.le_refl _) (Nat.le_succ _) But.at_ (Src.put F0 hc few rfl (Int.ediv_nonneg l0 (by omega)))⟩
    · rw [decide_eq_false hl]
      -- k = m["at"]; m["at"] = k + 1
      refine ⟨_, rfl, m, _, rfl, .inl ⟨_, .inr "at", .inl e, rfl, (src_at c k l).symm⟩, ?_⟩
      refine ⟨_, rfl, .inl ⟨_, _, rfl, rfl, _, rfl, m, _, rfl, .inl ⟨_, .inr "at", e, rfl, (show 3 < sizeLine by decide), rfl⟩, ?_⟩⟩
      rw [put_at]
      have e1 : (upd H m (.dK (src c ((k : Int) + 1) l))) m = some (.dK (src c ((k : Int) + 1) l)) := upd_same
      have hc1 : SqL K (upd H m (.dK (src c ((k : Int) + 1) l))) c (ns.map V.int) := But.seq But.at_ F0 hc
      -- the cell
      refine ⟨fun σ' H' => ∃ z : Int, σ' = [some (.ref m), some (.int n), none, some (.int (k : Int)), some (.int z), none] ∧ H' m = some (.dK (src c ((k : Int) + 1) l)) ∧
        SqL K H' c (ns.map V.int) ∧ But m H H', ?_, ?_⟩
      · refine ⟨_, rfl, m, _, rfl, .inl ⟨_, .inr "cells", .inl e1, rfl, (src_cells c _ l).symm⟩, Nat.zero_le _, fun p hp lo => ?_⟩
        have e2 : upd (upd H m (.dK (src c ((k : Int) + 1) l))) p (.lst []) m = some (.dK (src c ((k : Int) + 1) l)) := by
          rw [upd_ne (ne_of_none e1 hp)]
          exact e1
        have hc2 : SqL K (upd (upd H m (.dK (src c ((k : Int) + 1) l))) p (.lst [])) c (ns.map V.int) := (Same.new hp).seq hc1
        have b2 : But m H (upd (upd H m (.dK (src c ((k : Int) + 1) l))) p (.lst [])) := But.trans But.at_ (But.of_same (Same.new hp))
        refine .inr (.inl ⟨.list (ns.map .int), .list [], .lst hc2 (ints_dp ns), .lst (.inl (.inl upd_same)) .nil, ints_shaped ns, by decide, _, rfl, ?_⟩)
        cases ns with
        | nil =>
          show ∃ z : Int, _
          exact ⟨0, rfl, e2, hc2, b2⟩
        | cons n0 ns =>
          refine ⟨_, rfl, m, _, rfl, .inl ⟨_, .inr "cells", .inl e2, rfl, (src_cells c _ l).symm⟩, ?_⟩
          refine ⟨_, rfl, .inl ⟨_, rfl, _, rfl, m, _, rfl, .inl ⟨_, .inr "cells", .inl e2, rfl, (src_cells c _ l).symm⟩, .inl ⟨c, _, rfl, .inl hc2, _, _, rfl, rfl, ?_, ?_⟩⟩⟩
          · rw [List.length_map, List.length_cons]
            omega
          · obtain ⟨z, hz⟩ := ints_at (n0 :: ns) ((k : Int) % (((n0 :: ns).map V.int).length : Nat)) (Int.emod_nonneg _ (by rw [List.length_map, List.length_cons]; omega))
              (by
                have := Int.emod_lt_of_pos (k : Int) (show (0 : Int) < (((n0 :: ns).map V.int).length : Nat) by rw [List.length_map, List.length_cons]; omega)
                rwa [List.length_map] at this ⊢)
            refine .inl ⟨c, _, _, _, rfl, rfl, hc2, hz, ?_⟩
            exact ⟨z, rfl, e2, hc2, b2⟩
      · rintro σ' H' ⟨z, rfl, e3, hc3, b3⟩
        have F3 : Full H' m := ⟨_, _, e3⟩
        refine ⟨fun σ' H2 => σ' = [some (.ref m), some (.int n), none, some (.int (k : Int)), some (.int z), none] ∧ H2 = H', ?_, ?_⟩
        · refine ⟨_, rfl, _, _, rfl, rfl, ⟨by decide, by decide, by decide⟩, _, _, rfl, rfl, _, rfl, ?_⟩
          by_cases hz : (10 : Int) ^ (18 : Int).toNat ≤ z
          · rw [decide_eq_true hz]
            refine ⟨_, rfl, _, rfl, m, _, rfl, .inl ⟨_, .inr "cells", .inl e3, rfl, (src_cells c _ l).symm⟩, .inl ⟨c, _, rfl, .inl hc3, .inl ⟨_, _, rfl, rfl, _, rfl, ?_⟩⟩⟩
            by_cases hk : (k : Int) < ((ns.map V.int).length : Nat)
            · rw [decide_eq_true hk]
              refine ⟨_, rfl, _, rfl, z, n, rfl, rfl, divW n1 n2, ?_⟩
              refine ⟨_, rfl, m, _, rfl, .inl ⟨_, .inr "left", e3, rfl, (show 3 < sizeLine by decide), rfl⟩, ?_⟩
              rw [put_left]
              have z0 : 0 ≤ z := Int.le_trans (by decide) hz
              refine ⟨_, rfl, .inl ⟨z, rfl, _, rfl, z, n, rfl, rfl, n1, ?_⟩⟩
              exact q _ (k + 1) _ (Int.emod_nonneg _ (by omega)) (Int.emod_lt_of_pos _ n1) (Nat.le_succ _) (Nat.le_refl _) (But.trans b3 But.at_) (Src.put F3 hc3 few rfl (Int.ediv_nonneg z0 (by omega)))
            · rw [decide_eq_false hk]
              exact ⟨rfl, rfl⟩
          · rw [decide_eq_false hz]
            exact ⟨rfl, rfl⟩
        · rintro σ' H2 ⟨rfl, rfl⟩
          have fin : ∀ r : Int, 0 ≤ r → r < n → Q (.int r) H2 := fun r r1 r2 => q r (k + 1) H2 r1 r2 (Nat.le_succ _) (Nat.le_refl _) b3 ⟨l, e3, hc3, few, l0⟩
          have x1 := Int.emod_nonneg z (show (1000003 : Int) ≠ 0 by decide)
          have x2 := Int.emod_lt_of_pos z (show (0 : Int) < 1000003 by decide)
          refine ⟨_, rfl, .inl ⟨z, rfl, z, 1000003, rfl, rfl, (show (0 : Int) < 1000003 by decide), .inl ⟨_, 48271, rfl, rfl, mulW (by omega) (by omega) (by decide) (by decide), ?_⟩⟩⟩
          refine ⟨_, rfl, z, 1000003, rfl, rfl, divW (by decide) (by decide), .inl ⟨_, rfl, _, 1000003, rfl, rfl, (show (0 : Int) < 1000003 by decide), .inl ⟨_, _, rfl, rfl, ?_⟩⟩⟩
          have kk1 : -(2 ^ 200) < (k : Int) ∧ (k : Int) < 2 ^ 200 := ⟨by omega, by omega⟩
          have kk2 : -(2 ^ 200) < 7919 * (k : Int) ∧ 7919 * (k : Int) < 2 ^ 200 := ⟨by omega, by omega⟩
          refine ⟨_, rfl, _, rfl, .inl ⟨_, _, rfl, rfl, mulW (by decide) (by decide) kk1.1 kk1.2, _, rfl, .inl ⟨_, _, rfl, rfl, mulW kk2.1 kk2.2 kk1.1 kk1.2, .inl ⟨_, _, rfl, rfl, ?_⟩⟩⟩⟩
          refine ⟨_, rfl, .inl ⟨_, _, rfl, rfl, mulW (by decide) (by decide) kk1.1 kk1.2, .inl ⟨_, _, rfl, rfl, .inl ⟨_, _, rfl, rfl, .inl ⟨_, rfl, _, _, rfl, rfl, (show (0 : Int) < 2147483647 by decide), ?_⟩⟩⟩⟩⟩
          generalize (z % 1000003 * 48271 + z / 1000003 % 1000003 + 7919 * (k : Int) * (k : Int) + 104729 * (k : Int) + 79) = y
          have y1 := Int.emod_nonneg y (show (2147483647 : Int) ≠ 0 by decide)
          have y2 := Int.emod_lt_of_pos y (show (0 : Int) < 2147483647 by decide)
          have u2 : -(2 ^ 200) < y % 2147483647 ∧ y % 2147483647 < 2 ^ 200 := ⟨by omega, by omega⟩
          refine ⟨_, rfl, _, rfl, .inl ⟨_, _, rfl, rfl, mulW u2.1 u2.2 u2.1 u2.2, .inl ⟨_, rfl, _, _, rfl, rfl, (show (0 : Int) < 2147483629 by decide), ?_⟩⟩⟩
          have v1 := Int.emod_nonneg (y % 2147483647 * (y % 2147483647)) (show (2147483629 : Int) ≠ 0 by decide)
          have v2 := Int.emod_lt_of_pos (y % 2147483647 * (y % 2147483647)) (show (0 : Int) < 2147483629 by decide)
          refine .inl ⟨_, _, rfl, rfl, mulW (by omega) (by omega) (by decide) (by decide), .inl ⟨_, rfl, _, _, rfl, rfl, (show (0 : Int) < 2147483587 by decide), ?_⟩⟩
          refine ⟨_, rfl, _, 7, rfl, rfl, divW (by decide) (by decide), .inl ⟨_, rfl, _, rfl, _, n, rfl, rfl, n1, ?_⟩⟩
          exact fin _ (Int.emod_nonneg _ (by omega)) (Int.emod_lt_of_pos _ n1)
end
end K01

namespace K01
open PySem L2 Xg
section
variable {P : Program} {w : World} {K : PySem.W.Frag} {mg : Str → Option Value} {base : Heap} {c : Addr} {ns : List Int}
def sp_begun : Sp := fun vs H Q _ => vs = [.ref c] ∧ SqL K H c (ns.map V.int) ∧ ns.length ≤ 63 ∧
  ∀ m H', H m = none → Same H H' → Src K c ns H' m 0 → Q (.ref m) H'
theorem ok_begun (T : Tx K mg) (F : FunAt K mg "_law_begun" s__law_begun ["_law_cells"]) : Has P w K mg base "_law_begun" 1 ["_law_cells"] (sp_begun (K := K) (c := c) (ns := ns)) := by
  refine Has.mk' F sc__law_begun (fun vs H Q E h => ?_) (fun f cdv A outer s H vs Q E hr h => ?_)
  · obtain ⟨rfl, _⟩ := h
    rfl
  · obtain ⟨rfl, hc, few, q⟩ := h
    refine ⟨_, (pss_one (ps_ret (pe_disp (pps_cons pe_str (pv 0) (pps_cons pe_str pe_int (pps_cons pe_str pe_int pps_nil))) rfl rfl (by simp) (by decide)))), fun p hp => ?_⟩
    refine ⟨_, rfl, upd_same, src c 0 0, rfl, (show 3 ≤ 15 by decide), ?_⟩
    have s1 : Same H (upd (upd H p (.dK [])) p (.dK (mergeK [] (src c 0 0)))) := Same.mut (Same.new hp) hp
    exact q p _ hp s1 ⟨0, upd_same, s1.seq hc, few, Int.le_refl _⟩

def sp_of : Sp := fun vs H Q _ => ∃ m p xs k, vs = [.ref m, .ref p] ∧ (SqL K H p xs ∨ SqT K H p xs) ∧ 0 < xs.length ∧ xs.length ≤ 1000 ∧ Src K c ns H m k ∧ k ≤ 1000000000 ∧
  ∀ v k' H', v ∈ xs → k ≤ k' → k' ≤ k + 1 → But m H H' → Src K c ns H' m k' → Q v H'
theorem at_of {xs : List V} {i : Int} (h0 : 0 ≤ i) (h1 : i < xs.length) : ∃ v, atI xs i = some v ∧ v ∈ xs := by
  have hi : i.toNat < xs.length := by omega
  refine ⟨xs[i.toNat], ?_, List.getElem_mem hi⟩
  unfold atI ixN
  rw [if_pos h0, if_pos h1]
  exact List.getElem?_eq_getElem hi
theorem ok_of (T : Tx K mg) (F : FunAt K mg "_law_of" s__law_of ["_law_m", "_law_items"]) (D__law_next : Has P w K mg base "_law_next" 1 ["_law_m", "_law_total"] (sp_next (K := K) (c := c) (ns := ns))) :
    Has P w K mg base "_law_of" 2 ["_law_m", "_law_items"] (sp_of (K := K) (c := c) (ns := ns)) := by
  refine Has.mk' F sc__law_of (fun vs H Q E h => ?_) (fun f cdv A outer s H vs Q E hr h => ?_)
  · obtain ⟨m, p, xs, k, rfl, _⟩ := h
    rfl
  · obtain ⟨m, p, xs, k, rfl, hp, l0, l1, S, kb, q⟩ := h
    have hr__law_next := hr
    refine ⟨_, (pss_one (ps_ret (pe_ix ix_seq (pv 1) (pe_own D__law_next hr__law_next rfl (pa_cons (pv 0) (pa_cons (pe_callB callLenA rfl T.z_len B.len (pa_cons (pv 1) pa_nil)) pa_nil))) (fun _ _ => rfl)))), ?_⟩
    refine ⟨_, rfl, _, rfl, _, rfl, .inl ⟨p, xs, rfl, hp, m, _, k, rfl, by omega, by omega, S, kb, fun r k' H' r0 r1 k1 k2 b S' => ?_⟩⟩
    obtain ⟨v, e, hv⟩ := at_of r0 r1
    have fin := q v k' H' hv k1 k2 b S'
    rcases hp with hp | hp
    · exact .inl ⟨p, xs, r, v, rfl, rfl, b.seq S.full hp, e, fin⟩
    · exact .inr (.inl ⟨p, xs, r, v, rfl, rfl, b.seqT S.full hp, e, fin⟩)

def wholeP : PyData → Bool
  | .int _ => true
  | _ => false
def sp_whole2 : Sp := fun vs H Q _ => ∃ x d, vs = [x] ∧ Dt H x d ∧ Q (.bl (wholeP d)) H
theorem ok_whole2 (T : Tx K mg) (F : FunAt K mg "_law_is_whole" s__law_is_whole ["_law_thing"]) : Has P w K mg base "_law_is_whole" 1 ["_law_thing"] sp_whole2 := by
  refine Has.mk' F sc__law_is_whole (fun vs H Q E h => ?_) (fun f cdv A outer s H vs Q E hr h => ?_)
  · obtain ⟨x, d, rfl, _⟩ := h
    rfl
  · obtain ⟨x, d, rfl, dt, q⟩ := h
    refine ⟨_, (pss_one (ps_ret (pe_and (pe_callB call_isD rfl T.z_isinstance B.isinstance (pa_cons (pv 0) (pa_cons (pe_ty rfl T.z_int B.int) pa_nil))) (pe_one (pe_not (pe_callB call_isD rfl T.z_isinstance B.isinstance (pa_cons (pv 0) (pa_cons (pe_ty rfl T.z_bool B.bool) pa_nil)))))))), ?_⟩
    refine ⟨x, rfl, x, "int", d, rfl, by simp, dt, _, rfl, ?_⟩
    cases dt with
    | int i => exact ⟨_, rfl, _, "bool", _, rfl, by simp, .int i, _, rfl, q⟩
    | bl b => exact ⟨_, rfl, _, "bool", _, rfl, by simp, .bl b, _, rfl, q⟩
    | _ => exact q

/-- the law's own signs: the percent sign is one -/
def lawSign (c : Nat) : Bool := c == 10 || (decide (32 ≤ c) && decide (c ≤ 126))
def textL (d : PyData) (lo hi : Int) : Bool := match d with
  | .str x => if decide (lo ≤ (x.length : Int)) && decide ((x.length : Int) ≤ hi) then x.cps.toList.all lawSign else false
  | _ => false
theorem lt1 (a b : Nat) : decide ([a] < [b]) = decide (a < b) := by
  by_cases h : a < b
  · rw [decide_eq_true h]
    exact decide_eq_true (List.Lex.rel h)
  · rw [decide_eq_false h, decide_eq_false]
    intro z
    cases z with
    | rel r => exact h r
    | cons r => cases r
def sp_text2 : Sp := fun vs H Q _ => ∃ x d lo hi, vs = [x, .int lo, .int hi] ∧ Dt H x d ∧ ws d ≤ 100000 ∧ ∀ H', Same H H' → Q (.bl (textL d lo hi)) H'
theorem ok_text2 (T : Tx K mg) (F : FunAt K mg "_law_is_text" s__law_is_text ["_law_thing", "_law_least", "_law_most"]) :
    Has P w K mg base "_law_is_text" 1 ["_law_thing", "_law_least", "_law_most"] sp_text2 := by
  refine Has.mk' F sc__law_is_text (fun vs H Q E h => ?_) (fun f cdv A outer s H vs Q E hr h => ?_)
  · obtain ⟨x, d, lo, hi, rfl, _⟩ := h
    rfl
  · obtain ⟨x, d, lo, hi, rfl, dt, sm, q⟩ := h
    have hu : (bodyCx P w K mg base N__law_is_text "_law_is_text" s__law_is_text f cdv A outer s H E).A.units + 64 < cLine := hr.units
    refine ⟨_, (pss_cons (ps_if (PW.pt (pw_or (pt_not (pt_val (pe_callB call_isD rfl T.z_isinstance B.isinstance (pa_cons (pv 0) (pa_cons (pe_ty rfl T.z_str B.str) pa_nil))))) (pw_or1 (pt_not (pt_chain opLeA opLeA (pv 1) (pe_callB callLenA rfl T.z_len B.len (pa_cons (pv 0) pa_nil)) (pv 2))))))
        (pss_one (ps_ret pe_bl))
        pss_nil)
      (pss_one (ps_ret (pe_cmpR (opEqA (by exact hu)) (pe_lc (own := [("_law_sign", 3)]) (g := gName 3) rfl sc__law_is_text.nd (pi_str (pv 0)) (blkOk_by (N := N__law_is_text) (sc := defScope s__law_is_text) (by decide +kernel)) (fun _ _ _ _ _ => pg_name (i := 3) sc__law_is_text.nd rfl (Or.inl rfl)) (fun _ _ _ _ _ => pts_one (PW.pt (pw_and (pt_cmpR (opNeB (K := K) (by rfl) (by rfl) hu) (pv 3) pe_str (nomark _)) (pw_and1 (pt_not (pt_chain opLeA opLeA pe_str (pv 3) pe_str)))))) (fun _ _ _ _ _ => (pv 3))) (pe_lstS pa_nil) (nomark _))))), ?_⟩
    refine ⟨x, rfl, x, "str", d, rfl, by simp, dt, _, rfl, ?_⟩
    cases dt with
    | str z =>
      have zl : z.length ≤ 10000 := by
        simp only [ws] at sm
        omega
      have q0 : ∀ H', Same H H' → Q (.bl (if decide (lo ≤ (z.length : Int)) && decide ((z.length : Int) ≤ hi) then z.cps.toList.all lawSign else false)) H' := q
      refine ⟨_, rfl, _, rfl, .inr ⟨z, rfl, Nat.le_trans zl (by decide), .inl ⟨_, _, rfl, rfl, _, rfl, ?_⟩⟩⟩
      by_cases h1 : lo ≤ (z.length : Int)
      · rw [decide_eq_true h1, Bool.true_and] at q0
        rw [decide_eq_true h1]
        refine ⟨_, rfl, .inl ⟨_, _, rfl, rfl, _, rfl, ?_⟩⟩
        by_cases h2 : (z.length : Int) ≤ hi
        · rw [decide_eq_true h2] at q0 ⊢
          refine ⟨_, rfl, z, rfl, fun D hD => ?_⟩
          refine lc_filter (j := 3) walk_str rfl (fun i => .str ⟨#[z.cps.getD i 0]⟩) (fun i => !lawSign (z.cps.getD i 0)) (Nat.lt_of_le_of_lt (show z.cps.size ≤ 10000 from zl) (by decide)) hD (fun _ _ => trivial) (fun i x H1 H2 hi s1 y => ?_) (fun H1 s1 hL => ?_)
          · obtain ⟨rfl, c, hc, rfl⟩ := y
            have ec : z.cps.getD i 0 = c := by
              rw [Array.getD_eq_getD_getElem?, hc]
              rfl
            rw [ec]
            refine ⟨rfl, fun Q' q' => ?_, fun Q' q' => ⟨_, rfl, q'⟩⟩
            refine ⟨_, rfl, .inl ⟨rfl, _, rfl, ?_⟩⟩
            by_cases hn : c = 10
            · subst hn
              rw [show (!decide (V.str ⟨#[10]⟩ = V.str "\n")) = false by decide]
              exact q'
            · have ne : (!decide (V.str ⟨#[c]⟩ = V.str "\n")) = true := by
                rw [eqS, decide_eq_false]
                · rfl
                · intro y
                  have y2 : ((⟨#[c]⟩ : Str).cps.toList) = ("\n" : Str).cps.toList := by rw [y]
                  have y3 : [c] = [10] := y2
                  exact hn (List.cons.inj y3).1
              rw [ne]
              refine ⟨_, rfl, .inr ⟨_, _, rfl, rfl, _, rfl, ?_⟩⟩
              rw [show decide ((⟨#[c]⟩ : Str).cps.toList < (" " : Str).cps.toList) = decide (c < 32) from lt1 c 32]
              have n10 : (c == 10) = false := beq_eq_false_iff_ne.mpr hn
              unfold lawSign at q'
              rw [n10, Bool.false_or] at q'
              by_cases h32 : c < 32
              · rw [decide_eq_true h32]
                refine ⟨_, rfl, ?_⟩
                rw [decide_eq_false (by omega), Bool.false_and] at q'
                exact q'
              · rw [decide_eq_false h32]
                refine .inr ⟨_, _, rfl, rfl, _, rfl, ?_⟩
                rw [show decide (("~" : Str).cps.toList < (⟨#[c]⟩ : Str).cps.toList) = decide (126 < c) from lt1 126 c]
                rw [decide_eq_true (show 32 ≤ c by omega), Bool.true_and] at q'
                by_cases h126 : 126 < c
                · rw [decide_eq_true h126]
                  rw [decide_eq_false (by omega)] at q'
                  exact q'
                · rw [decide_eq_false h126]
                  rw [decide_eq_true (by omega)] at q'
                  exact q'
          · refine ⟨Nat.zero_le _, fun p hp lo2 => ?_⟩
            refine .inr (.inr (.inr ⟨D, p, _, rfl, rfl, .inl (.inl (by rw [upd_ne (ne_of_none hL hp)]; exact hL)), .inl (.inl upd_same), ?_⟩))
            have e : ((((List.range z.cps.size).filter fun i => !lawSign (z.cps.getD i 0)).map fun i => V.str ⟨#[z.cps.getD i 0]⟩).isEmpty) = z.cps.toList.all lawSign := by
              rw [List.isEmpty_map]
              have := all_list z.cps.toList lawSign 0
              rw [← this, List.all_map, Array.length_toList]
              have gen : ∀ (l : List Nat), ((l.filter fun i => !lawSign (z.cps.getD i 0)).isEmpty) = l.all (id ∘ fun i => lawSign (z.cps.toList.getD i 0)) := by
                intro l
                induction l with
                | nil => rfl
                | cons a l ih =>
                  have ea : z.cps.getD a 0 = z.cps.toList.getD a 0 := by
                    rw [Array.getD_eq_getD_getElem?, List.getD_eq_getElem?_getD, Array.getElem?_toList]
                  rw [List.filter_cons, List.all_cons, ← ih, ea]
                  show (if (!lawSign (z.cps.toList.getD a 0)) = true then _ else _ : List Nat).isEmpty = (lawSign (z.cps.toList.getD a 0) && _)
                  cases lawSign (z.cps.toList.getD a 0) <;> rfl
              exact gen _
            rw [e]
            exact q0 _ (s1.trans (Same.new hp))
        · rw [decide_eq_false h2] at q0 ⊢
          exact q0 H (Same.refl H)
      · rw [decide_eq_false h1, Bool.false_and] at q0
        rw [decide_eq_false h1]
        refine ⟨_, rfl, ?_⟩
        exact q0 H (Same.refl H)
    | _ => exact q H (Same.refl H)
end
end K01

namespace K01
open PySem L2 Xg
mutual
/-- no percent sign in a string -/
def clean : PyData → Bool
  | .str x => x.cps.toList.all fun c => c != 37
  | .list xs => cleans xs
  | .tuple xs => cleans xs
  | _ => true
def cleans : List PyData → Bool
  | [] => true
  | x :: xs => clean x && cleans xs
end
theorem six1 (n : Nat) : HT.sIx (n + 1) 0 (some 1) = 1 := by
  rw [show (1 : Int) = ((1 : Nat) : Int) from rfl, HT.sIx_nat]
  omega
theorem cut1 (v : V) (vs : List V) : cutV (v :: vs) (some 1) none = vs := by
  unfold cutV
  rw [List.length_cons, six1]
  show ((v :: vs).drop 1).take (vs.length + 1 - 1) = vs
  simp
theorem notwhole (v : V) (vs : List V) : ¬ (HT.sIx (v :: vs).length 0 (some 1) = 0 ∧ HT.sIx (v :: vs).length (v :: vs).length none = (v :: vs).length) := by
  rintro ⟨h, _⟩
  rw [List.length_cons, six1] at h
  omega
theorem in_two (w a b : Str) : inV (.str w) [.str a, .str b] = (decide (w = a) || decide (w = b)) := by
  unfold inV
  have one : ∀ b : Str, eqV (.str b) (.str w) = decide (w = b) := fun b => by
    show (b == w) = decide (w = b)
    by_cases z : w = b
    · rw [z]; simp
    · rw [decide_eq_false z]
      exact beq_eq_false_iff_ne.mpr fun y => z y.symm
  simp only [List.any_cons, List.any_nil, Bool.or_false, one]
theorem bounds_of (i j : Int) : (decide (-(1000000000000000000 : Int) < i) && (decide (i ≤ j) && decide (j < 1000000000000000000))) = boundsB (.int i) (.int j) := by
  show _ = ((decide (-big ≤ i) && decide (i ≤ big)) && (decide (i ≤ j) && decide (j ≤ big)))
  by_cases h1 : -(1000000000000000000 : Int) < i <;> by_cases h2 : i ≤ j <;> by_cases h3 : j < 1000000000000000000
  · rw [decide_eq_true h1, decide_eq_true h2, decide_eq_true h3, decide_eq_true (show -big ≤ i by unfold big; omega), decide_eq_true (show i ≤ big by unfold big; omega), decide_eq_true (show j ≤ big by unfold big; omega)]
    rfl
  all_goals first
    | rw [decide_eq_false h1, decide_eq_false (show ¬ -big ≤ i by unfold big; omega)]; simp; done
    | rw [decide_eq_false h2]; simp; done
    | rw [decide_eq_false h3, decide_eq_false (show ¬ j ≤ big by unfold big; omega)]; simp; done
theorem sign_alike {c : Nat} (h : c ≠ 37) : lawSign c = okSign c := by
  unfold lawSign okSign
  have : (c != 37) = true := by simpa using h
  rw [this, Bool.and_true]
theorem text_alike {x : Str} (h : clean (.str x) = true) : x.cps.toList.all lawSign = okText x := by
  unfold okText
  have h' : ∀ c ∈ x.cps.toList, c ≠ 37 := fun c hc => by
    have := List.all_eq_true.mp (show (x.cps.toList.all fun c => c != 37) = true from h) c hc
    simpa using this
  generalize x.cps.toList = l at h'
  induction l with
  | nil => rfl
  | cons c l ih =>
    rw [List.all_cons, List.all_cons, sign_alike (h' c List.mem_cons_self), ih fun c hc => h' c (List.mem_cons_of_mem _ hc)]
theorem word_alike {d : PyData} (h : clean d = true) : textL d 1 20 = wordB d := by
  cases d with
  | str x =>
    show (if decide ((1 : Int) ≤ (x.length : Int)) && decide ((x.length : Int) ≤ 20) then x.cps.toList.all lawSign else false) = (okText x && (decide ((1 : Int) ≤ x.length) && decide ((x.length : Int) ≤ 20)))
    rw [text_alike h]
    cases decide ((1 : Int) ≤ (x.length : Int)) && decide ((x.length : Int) ≤ 20) <;> simp
  | _ => rfl
theorem clean_mem {ds : List PyData} (h : cleans ds = true) {d : PyData} (hd : d ∈ ds) : clean d = true := by
  induction ds with
  | nil => cases hd
  | cons x xs ih =>
    simp only [cleans, Bool.and_eq_true] at h
    rcases List.mem_cons.mp hd with rfl | hd
    · exact h.1
    · exact ih h.2 hd
section
variable {P : Program} {w : World} {K : PySem.W.Frag} {mg : Str → Option Value} {base : Heap}
theorem set3 {σ : L2.St} {j : Nat} {x : V} (hj : j < σ.length) : ((σ.set j none).set j (some x))[j]? = some (some x) := by
  rw [List.getElem?_set_self]
  rwa [List.length_set]
theorem ite_int {b : Bool} {Q : VK} {x y : Int} {σ : L2.St} {H : Hp} (h : Q (.int (if b = true then x else y)) H) : if b = true then tC (.int x) σ H Q else tC (.int y) σ H Q := by
  cases b <;> exact h
theorem all_wholes {σ : L2.St} {H : Hp} {Q : VK} {p : Addr} {vs : List V} {ds : List PyData} (hσ : σ[2]? = some (some (.ref p))) (tr : SqT K H p vs) (dr : Dts H vs ds) (few : ds.length ≤ 50000) (hj : 3 < σ.length)
    (q : ∀ H', Same H H' → Q (.bl (ds.all wholeP)) H') : tCB (rAll K) (tCons (tLc (iTup K (tVar 2)) (gName 3) tYes (tOwn sp_whole2 (tCons (tVar 3) tNil)) [3]) tNil) σ H Q := by
  have el := dr.length
  refine ⟨_, hσ, p, rfl, ⟨vs, tr⟩, fun D hD => ?_⟩
  refine lc_pure (j := 3) (walk_tup (K := K) (a := p) (xs := vs)) rfl (fun i => .bl (wholeP (ds.getD i .none))) (by rw [el]; exact Nat.lt_of_le_of_lt few (by decide)) hD (fun H1 s1 => Same.seqT s1 tr) (fun i x H1 H2 hi s1 y => ?_) (fun H1 s1 hL => ?_)
  · obtain ⟨rfl, hx⟩ := y
    refine ⟨rfl, fun Q' q' => ?_⟩
    obtain ⟨d, hd, dd⟩ := (Dts.same s1 dr).get hx
    refine ⟨x, set3 hj, x, d, rfl, dd, ?_⟩
    have := q' H2 (Same.refl H2)
    rw [List.getD_eq_getElem?_getD, hd] at this
    exact this
  · refine ⟨D, (List.range ds.length).map fun i => wholeP (ds.getD i .none), rfl, .inl (.inl (by rw [hL, List.map_map, el]; rfl)), ?_⟩
    rw [all_list ds wholeP .none]
    exact q H1 s1
theorem all_words {σ : L2.St} {H : Hp} {Q : VK} {p a : Addr} {us vs : List V} {ds : List PyData} (hσ : σ[2]? = some (some (.ref p))) (tp : SqT K H p us) (hu : atI us 0 = some (.ref a)) (tr : SqT K H a vs) (dr : Dts H vs ds)
    (sm : wss ds ≤ 100000) (cl : cleans ds = true) (hj : 3 < σ.length)
    (q : ∀ H', Same H H' → Q (.bl (ds.all wordB)) H') : tCB (rAll K) (tCons (tLc (iTup K (tOp (rIx K) (tVar 2) (tC (.int 0)))) (gName 3) tYes (tOwn sp_text2 (tCons (tVar 3) (tCons (tC (.int 1)) (tCons (tC (.int 20)) tNil)))) [3]) tNil) σ H Q := by
  have el := dr.length
  have few := ws_len ds
  refine ⟨_, hσ, .inr (.inl ⟨p, _, 0, _, rfl, rfl, tp, hu, a, rfl, ⟨vs, tr⟩, fun D hD => ?_⟩)⟩
  refine lc_pure (j := 3) (walk_tup (K := K) (a := a) (xs := vs)) rfl (fun i => .bl (wordB (ds.getD i .none))) (by rw [el]; exact Nat.lt_of_le_of_lt (show ds.length ≤ 50000 by omega) (by decide)) hD (fun H1 s1 => Same.seqT s1 tr) (fun i x H1 H2 hi s1 y => ?_) (fun H1 s1 hL => ?_)
  · obtain ⟨rfl, hx⟩ := y
    refine ⟨rfl, fun Q' q' => ?_⟩
    obtain ⟨d, hd, dd⟩ := (Dts.same s1 dr).get hx
    have hm := List.mem_of_getElem? hd
    have := ws_mem hm
    refine ⟨x, set3 hj, x, d, _, _, rfl, dd, by omega, fun H3 s3 => ?_⟩
    rw [word_alike (clean_mem cl hm)]
    have := q' H3 s3
    rw [List.getD_eq_getElem?_getD, hd] at this
    exact this
  · refine ⟨D, (List.range ds.length).map fun i => wordB (ds.getD i .none), rfl, .inl (.inl (by rw [hL, List.map_map, el]; rfl)), ?_⟩
    rw [all_list ds wordB .none]
    exact q H1 s1
theorem len1 {H : Hp} {vs : List V} {ds : List PyData} (h : Dts H vs ds) (l : (ds.length : Int) = 1) : ∃ v1 d1, vs = [v1] ∧ ds = [d1] ∧ Dt H v1 d1 := by
  cases h with
  | nil => simp at l
  | cons h1 r => cases r with
    | nil => exact ⟨_, _, rfl, rfl, h1⟩
    | cons h2 r => simp only [List.length_cons] at l; omega
theorem len2 {H : Hp} {vs : List V} {ds : List PyData} (h : Dts H vs ds) (l : (ds.length : Int) = 2) : ∃ v1 v2 d1 d2, vs = [v1, v2] ∧ ds = [d1, d2] ∧ Dt H v1 d1 ∧ Dt H v2 d2 := by
  cases h with
  | nil => simp at l
  | cons h1 r => 
    obtain ⟨v2, d2, rfl, rfl, h2⟩ := len1 r (by simp only [List.length_cons] at l; omega)
    exact ⟨_, _, _, _, rfl, rfl, h1, h2⟩
theorem len3 {H : Hp} {vs : List V} {ds : List PyData} (h : Dts H vs ds) (l : (ds.length : Int) = 3) : ∃ v1 v2 v3 d1 d2 d3, vs = [v1, v2, v3] ∧ ds = [d1, d2, d3] ∧ Dt H v1 d1 ∧ Dt H v2 d2 ∧ Dt H v3 d3 := by
  cases h with
  | nil => simp at l
  | cons h1 r => 
    obtain ⟨v2, v3, d2, d3, rfl, rfl, h2⟩ := len2 r (by simp only [List.length_cons] at l; omega)
    exact ⟨_, _, _, _, _, _, rfl, rfl, h1, h2⟩
theorem len0 {H : Hp} {vs : List V} {ds : List PyData} (h : Dts H vs ds) : vs.isEmpty = ds.isEmpty := by
  cases h <;> rfl
def g1 (f : PyData → Bool) : List PyData → Bool
  | [a] => f a
  | _ => false
def g2 (f : PyData → PyData → Bool) : List PyData → Bool
  | [a, b] => f a b
  | _ => false
def g3 (f : PyData → PyData → PyData → Bool) : List PyData → Bool
  | [a, b, c] => f a b c
  | _ => false
theorem tail_int {w : Str} (h : w = "int") {ds : List PyData} : tailB w ds = g2 boundsB ds := by
  unfold tailB
  rw [if_pos h]
  rcases ds with _ | ⟨_, _ | ⟨_, _ | ⟨_, _ | ⟨_, _⟩⟩⟩⟩ <;> rfl
theorem tail_dec {w : Str} (h1 : ¬ w = "int") (h : w = "decimal") {ds : List PyData} : tailB w ds = g3 (fun a b c => boundsB a b && wholeB c 1 9) ds := by
  unfold tailB
  rw [if_neg h1, if_pos h]
  rcases ds with _ | ⟨_, _ | ⟨_, _ | ⟨_, _ | ⟨_, _⟩⟩⟩⟩ <;> rfl
theorem tail_text {w : Str} (h1 : ¬ w = "int") (h2 : ¬ w = "decimal") (h : w = "text") {ds : List PyData} : tailB w ds = g1 (fun a => wholeB a 1 1000) ds := by
  unfold tailB
  rw [if_neg h1, if_neg h2, if_pos h]
  rcases ds with _ | ⟨_, _ | ⟨_, _ | ⟨_, _ | ⟨_, _⟩⟩⟩⟩ <;> rfl
theorem tail_choice {w : Str} (h1 : ¬ w = "int") (h2 : ¬ w = "decimal") (h3 : ¬ w = "text") (h : w = "choice") {ds : List PyData} : tailB w ds = g1 wordsB ds := by
  unfold tailB
  rw [if_neg h1, if_neg h2, if_neg h3, if_pos h]
  rcases ds with _ | ⟨_, _ | ⟨_, _ | ⟨_, _ | ⟨_, _⟩⟩⟩⟩ <;> rfl
theorem tail_else {w : Str} (h1 : ¬ w = "int") (h2 : ¬ w = "decimal") (h3 : ¬ w = "text") (h4 : ¬ w = "choice") {ds : List PyData} : tailB w ds = ((decide (w = "truth") || decide (w = "date")) && ds.isEmpty) := by
  unfold tailB
  rw [if_neg h1, if_neg h2, if_neg h3, if_neg h4]
  cases ds with
  | nil => simp
  | cons d ds => simp
theorem un1 {f : PyData → Bool} {ds : List PyData} (h : ¬ (ds.length : Int) = 1) : g1 f ds = false := by
  match ds, h with
  | [], _ => rfl
  | [_], h => exact absurd rfl h
  | _ :: _ :: _, _ => rfl
theorem un2 {f : PyData → PyData → Bool} {ds : List PyData} (h : ¬ (ds.length : Int) = 2) : g2 f ds = false := by
  match ds, h with
  | [], _ => rfl
  | [_], _ => rfl
  | [_, _], h => exact absurd rfl h
  | _ :: _ :: _ :: _, _ => rfl
theorem un3 {f : PyData → PyData → PyData → Bool} {ds : List PyData} (h : ¬ (ds.length : Int) = 3) : g3 f ds = false := by
  match ds, h with
  | [], _ => rfl
  | [_], _ => rfl
  | [_, _], _ => rfl
  | [_, _, _], h => exact absurd rfl h
  | _ :: _ :: _ :: _ :: _, _ => rfl
/-- 0 - 10 ** 18 < rest[0] <= rest[1] < 10 ** 18 -/
theorem in_bounds {σ : L2.St} {H : Hp} {Q : VK} {p : Addr} {vs : List V} {i j : Int} (hσ : σ[2]? = some (some (.ref p))) (tr : SqT K H p vs) (h0 : atI vs 0 = some (.int i)) (h1 : atI vs 1 = some (.int j))
    (q : Q (.bl (decide (-(1000000000000000000 : Int) < i) && (decide (i ≤ j) && decide (j < 1000000000000000000)))) H) :
    tChain3 rLtA rLeA rLtA (tOp (rI0 fun i j => .int (i - j)) (tC (.int 0)) (tOp (rI CPow fun i j => .int (i ^ j.toNat)) (tC (.int 10)) (tC (.int 18)))) (tOp (rIx K) (tVar 2) (tC (.int 0)))
      (tOp (rIx K) (tVar 2) (tC (.int 1))) (tOp (rI CPow fun i j => .int (i ^ j.toNat)) (tC (.int 10)) (tC (.int 18))) σ H Q := by
  refine ⟨10, 18, rfl, rfl, ⟨by decide, by decide, by decide⟩, 0, _, rfl, rfl, _, hσ, .inr (.inl ⟨p, _, 0, _, rfl, rfl, tr, h0, .inl ⟨_, _, rfl, rfl, _, rfl, ?_⟩⟩)⟩
  rw [show decide ((0 : Int) - 10 ^ (18 : Int).toNat < i) = decide (-(1000000000000000000 : Int) < i) from rfl]
  cases hq : decide (-(1000000000000000000 : Int) < i) with
  | false =>
    rw [hq] at q
    exact q
  | true =>
    rw [hq] at q
    refine ⟨_, hσ, .inr (.inl ⟨p, _, 1, _, rfl, rfl, tr, h1, .inl ⟨_, _, rfl, rfl, _, rfl, ?_⟩⟩)⟩
    cases hij : decide (i ≤ j) with
    | false =>
      rw [hij] at q
      exact q
    | true =>
      rw [hij] at q
      refine ⟨10, 18, rfl, rfl, ⟨by decide, by decide, by decide⟩, .inl ⟨_, _, rfl, rfl, ?_⟩⟩
      exact q
def sp_kind2 : Sp := fun vs H Q _ => ∃ x d, vs = [x] ∧ Dt H x d ∧ ws d ≤ 100000 ∧ clean d = true ∧ ∀ H', Same H H' → Q (.bl (kindB d)) H'
theorem ok_kind2 (T : Tx K mg) (F : FunAt K mg "_law_is_kind" s__law_is_kind ["_law_thing"]) (D__law_is_whole : Has P w K mg base "_law_is_whole" 1 ["_law_thing"] sp_whole2)
    (D__law_is_text : Has P w K mg base "_law_is_text" 1 ["_law_thing", "_law_least", "_law_most"] sp_text2) : Has P w K mg base "_law_is_kind" 2 ["_law_thing"] sp_kind2 := by
  refine Has.mk' F sc__law_is_kind (fun vs H Q E h => ?_) (fun f cdv A outer s H vs Q E hr h => ?_)
  · obtain ⟨x, d, rfl, _⟩ := h
    rfl
  · obtain ⟨x, d, rfl, dt, sm, cl, q⟩ := h
    have hr__law_is_whole := hr
    have hr__law_is_text := hr
    have hu : (bodyCx P w K mg base N__law_is_kind "_law_is_kind" s__law_is_kind f cdv A outer s H E).A.units + 64 < cLine := hr.units
    refine ⟨_, (pss_cons (ps_if (PW.pt (pw_or (pt_not (pt_val (pe_callB call_isD rfl T.z_isinstance B.isinstance (pa_cons (pv 0) (pa_cons (pe_ty rfl T.z_tuple B.tuple) pa_nil))))) (pw_or (pt_cmpR (opEqA (by exact hu)) (pv 0) (pe_tup pa_nil) (nomark _)) (pw_or1 (pt_not (pt_val (pe_callB call_isD rfl T.z_isinstance B.isinstance (pa_cons (pe_ix ix_seq (pv 0) pe_int (fun _ _ => rfl)) (pa_cons (pe_ty rfl T.z_str B.str) pa_nil)))))))))
        (pss_one (ps_ret pe_bl))
        pss_nil)
      (pss_cons (ps_par (i := 1) (j := 2) rfl sc__law_is_kind.nd rfl rfl (by decide) rfl rfl (pa_cons (pe_ix ix_seq (pv 0) pe_int (fun _ _ => rfl)) (pa_cons (pe_slice slAll (pv 0) (po_some pe_int) po_none) pa_nil)) rfl)
      (pss_cons (ps_if (pt_cmpR op_in_seq (pv 1) (pe_tup (pa_cons pe_str (pa_cons pe_str pa_nil))) (by with_unfolding_all rfl))
        (pss_cons (ps_if (PW.pt (pw_or (pt_cmpR (opNeA (by exact hu)) (pe_callB callLenA rfl T.z_len B.len (pa_cons (pv 2) pa_nil)) (pe_ifExp (pt_cmpR (opEqA (by exact hu)) (pv 1) pe_str (nomark _)) pe_int pe_int) (nomark _)) (pw_or1 (pt_not (pt_val (pe_callB (cr_all rfl) rfl T.z_all B.all (pa_cons (pe_lc (own := [("_law_one", 3)]) (g := gName 3) (tt := tYes) rfl sc__law_is_kind.nd (pi_tup (pv 2)) (blkOk_by (N := N__law_is_kind) (sc := defScope s__law_is_kind) (by decide +kernel)) (fun _ _ _ _ _ => pg_name (i := 3) sc__law_is_kind.nd rfl (Or.inl rfl)) (fun _ _ _ _ _ => pts_nil) (fun _ _ _ _ _ => (pe_own D__law_is_whole hr__law_is_whole rfl (pa_cons (pv 3) pa_nil)))) pa_nil)))))))
          (pss_one (ps_ret pe_bl))
          pss_nil)
        (pss_cons (ps_if (PW.pt (pw_and (pt_cmpR (opEqA (by exact hu)) (pv 1) pe_str (nomark _)) (pw_and1 (pt_not (pt_chain opLeA opLeA pe_int (pe_ix ix_seq (pv 2) pe_int (fun _ _ => rfl)) pe_int)))))
          (pss_one (ps_ret pe_bl))
          pss_nil)
        (pss_one (ps_ret (pe_chain3 opLtA opLeA opLtA (pe_op op_sub pe_int (pe_op op_pow pe_int pe_int)) (pe_ix ix_seq (pv 2) pe_int (fun _ _ => rfl)) (pe_ix ix_seq (pv 2) pe_int (fun _ _ => rfl)) (pe_op op_pow pe_int pe_int))))))
        pss_nil)
      (pss_cons (ps_if (pt_cmpR (opEqA (by exact hu)) (pv 1) pe_str (nomark _))
        (pss_one (ps_ret (pe_and (pe_cmpR (opEqA (by exact hu)) (pe_callB callLenA rfl T.z_len B.len (pa_cons (pv 2) pa_nil)) pe_int (nomark _)) (pe_and (pe_own D__law_is_whole hr__law_is_whole rfl (pa_cons (pe_ix ix_seq (pv 2) pe_int (fun _ _ => rfl)) pa_nil)) (pe_one (pe_chain opLeA opLeA pe_int (pe_ix ix_seq (pv 2) pe_int (fun _ _ => rfl)) pe_int))))))
        pss_nil)
      (pss_cons (ps_if (pt_cmpR (opNeA (by exact hu)) (pv 1) pe_str (nomark _))
        (pss_one (ps_ret (pe_and (pe_cmpR op_in_seq (pv 1) (pe_tup (pa_cons pe_str (pa_cons pe_str pa_nil))) (by with_unfolding_all rfl)) (pe_one (pe_cmpR (opEqA (by exact hu)) (pv 2) (pe_tup pa_nil) (nomark _))))))
        pss_nil)
      (pss_cons (ps_if (PW.pt (pw_or (pt_cmpR (opNeA (by exact hu)) (pe_callB callLenA rfl T.z_len B.len (pa_cons (pv 2) pa_nil)) pe_int (nomark _)) (pw_or (pt_not (pt_val (pe_callB call_isD rfl T.z_isinstance B.isinstance (pa_cons (pe_ix ix_seq (pv 2) pe_int (fun _ _ => rfl)) (pa_cons (pe_ty rfl T.z_tuple B.tuple) pa_nil))))) (pw_or1 (pt_not (pt_chain opLeA opLeA pe_int (pe_callB callLenA rfl T.z_len B.len (pa_cons (pe_ix ix_seq (pv 2) pe_int (fun _ _ => rfl)) pa_nil)) pe_int))))))
        (pss_one (ps_ret pe_bl))
        pss_nil)
      (pss_one (ps_ret (pe_and (pe_callB (cr_all rfl) rfl T.z_all B.all (pa_cons (pe_lc (own := [("_law_one", 3)]) (g := gName 3) (tt := tYes) rfl sc__law_is_kind.nd (pi_tup (pe_ix ix_seq (pv 2) pe_int (fun _ _ => rfl))) (blkOk_by (N := N__law_is_kind) (sc := defScope s__law_is_kind) (by decide +kernel)) (fun _ _ _ _ _ => pg_name (i := 3) sc__law_is_kind.nd rfl (Or.inl rfl)) (fun _ _ _ _ _ => pts_nil) (fun _ _ _ _ _ => (pe_own D__law_is_text hr__law_is_text rfl (pa_cons (pv 3) (pa_cons pe_int (pa_cons pe_int pa_nil)))))) pa_nil)) (pe_one (pe_cmpR (opEqA (by exact hu)) (pe_lenSetT rfl rfl T.z_len rfl T.z_set (pe_ix ix_seq (pv 2) pe_int (fun _ _ => rfl))) (pe_callB callLenA rfl T.z_len B.len (pa_cons (pe_ix ix_seq (pv 2) pe_int (fun _ _ => rfl)) pa_nil)) (nomark _)))))))))))), ?_⟩
    refine ⟨x, rfl, x, "tuple", d, rfl, by simp, dt, _, rfl, ?_⟩
    cases dt with
    | @tup a xs ds e r =>
      refine ⟨_, rfl, Nat.zero_le _, fun p0 hp0 => ?_⟩
      have s0 : Same H (upd H p0 (.tup [])) := Same.new hp0
      have e0 : upd H p0 (.tup []) a = some (.tup xs) := s0 _ _ e
      have tup : SqT K (upd H p0 (.tup [])) a xs := .inl (.inl e0)
      refine .inr (.inr (.inl ⟨a, p0, xs, rfl, rfl, tup, .inl (.inl upd_same), _, rfl, ?_⟩))
      simp only [ws] at sm
      simp only [clean] at cl
      cases r with
      | nil => exact q _ s0
      | @cons v vs d ds hd hds =>
        simp only [wss] at sm
        simp only [cleans, Bool.and_eq_true] at cl
        have few := ws_len ds
        have el := hds.length
        refine ⟨_, rfl, .inr (.inl ⟨a, _, 0, v, rfl, rfl, tup, at0, v, "str", d, rfl, by simp, Dt.same s0 hd, _, rfl, ?_⟩)⟩
        cases hd with
        | str w =>
          refine ⟨_, rfl, .inr (.inl ⟨a, _, 0, .str w, rfl, rfl, tup, at0, ?_⟩)⟩
          refine ⟨_, rfl, _, rfl, .inr (.inl ⟨a, _, rfl, tup, fun z => absurd z (notwhole _ _), fun _ p1 hp1 => ?_⟩)⟩
          rw [cut1]
          refine ⟨_, _, rfl, ?_⟩
          have s1 : Same H (upd (upd H p0 (.tup [])) p1 (.tup vs)) := s0.trans (Same.new hp1)
          have tr : SqT K (upd (upd H p0 (.tup [])) p1 (.tup vs)) p1 vs := .inl (.inl upd_same)
          have dr : Dts (upd (upd H p0 (.tup [])) p1 (.tup vs)) vs ds := Dts.same s1 hds
          have q1 : ∀ H', Same (upd (upd H p0 (.tup [])) p1 (.tup vs)) H' → Q (.bl (tailB w ds)) H' := fun H' z => q H' (s1.trans z)
          generalize upd (upd H p0 (.tup [])) p1 (.tup vs) = H1 at s1 tr dr q1
          refine ⟨_, rfl, Nat.le_trans (show 2 ≤ 1000 by decide) (by decide), fun p2 hp2 => ⟨p2, _, rfl, .inr (.inl (.inl upd_same)), rfl, rfl, _, congrArg V.bl (in_two w _ _), ?_⟩⟩
          have s2 : Same H1 (upd H1 p2 (.tup [.str "int", .str "decimal"])) := Same.new hp2
          have q2 : ∀ H', Same (upd H1 p2 (.tup [.str "int", .str "decimal"])) H' → Q (.bl (tailB w ds)) H' := fun H' z => q1 H' (s2.trans z)
          have tr2 := Same.seqT s2 tr
          have dr2 := Dts.same s2 dr
          generalize upd H1 p2 (.tup [.str "int", .str "decimal"]) = H2 at s2 tr2 dr2 q2
          by_cases w1 : w = "int"
          · rw [decide_eq_true w1, Bool.true_or]
            refine ⟨_, rfl, .inl ⟨p1, vs, rfl, .inr tr2, _, rfl, .inl ⟨rfl, _, rfl, ?_⟩⟩⟩
            rw [eqS, decide_eq_true w1]
            refine .inl ⟨rfl, _, rfl, ?_⟩
            rw [eqI, el]
            by_cases hl : (ds.length : Int) = 2
            · rw [decide_eq_true hl]
              obtain ⟨v1, v2, d1, d2, rfl, rfl, h1, h2⟩ := len2 dr2 hl
              · rw [tail_int w1] at q2
                replace q2 : ∀ H', Same H2 H' → Q (.bl (boundsB d1 d2)) H' := q2
                refine all_wholes (K := K) rfl tr2 (.cons h1 (.cons h2 .nil)) (by simp) (show 3 < 4 from by decide) fun H3 s3 => ⟨_, rfl, ?_⟩
                have tr3 := Same.seqT s3 tr2
                have z := q2 H3 s3
                cases h1 with
                | int i =>
                  cases h2 with
                  | int j =>
                    rw [show ([PyData.int i, PyData.int j].all wholeP) = true from rfl]
                    refine ⟨_, rfl, .inl ⟨rfl, _, rfl, ?_⟩⟩
                    rw [eqS, decide_eq_false (show ¬ w = "decimal" by rw [w1]; decide)]
                    have z2 : Q (.bl (decide (-(1000000000000000000 : Int) < i) && (decide (i ≤ j) && decide (j < 1000000000000000000)))) H3 := by
                      rw [bounds_of]
                      exact z
                    exact in_bounds rfl tr3 rfl rfl z2
                  | _ =>
                    have z2 : Q (.bl ((decide (-big ≤ i) && decide (i ≤ big)) && false)) H3 := z
                    rw [Bool.and_false] at z2
                    exact z2
                | _ => exact z
            · rw [decide_eq_false hl]
              have z := q2 H2 (Same.refl H2)
              rw [tail_int w1, un2 hl] at z
              exact z
          rw [decide_eq_false w1, Bool.false_or]
          by_cases w2 : w = "decimal"
          · rw [decide_eq_true w2]
            refine ⟨_, rfl, .inl ⟨p1, vs, rfl, .inr tr2, _, rfl, .inl ⟨rfl, _, rfl, ?_⟩⟩⟩
            rw [eqS, decide_eq_false w1]
            refine .inl ⟨rfl, _, rfl, ?_⟩
            rw [eqI, el]
            by_cases hl : (ds.length : Int) = 3
            · rw [decide_eq_true hl]
              obtain ⟨v1, v2, v3, d1, d2, d3, rfl, rfl, h1, h2, h3⟩ := len3 dr2 hl
              · rw [tail_dec w1 w2] at q2
                replace q2 : ∀ H', Same H2 H' → Q (.bl (boundsB d1 d2 && wholeB d3 1 9)) H' := q2
                refine all_wholes (K := K) rfl tr2 (.cons h1 (.cons h2 (.cons h3 .nil))) (by simp) (show 3 < 4 from by decide) fun H3 s3 => ⟨_, rfl, ?_⟩
                have tr3 := Same.seqT s3 tr2
                have z := q2 H3 s3
                cases h1 with
                | int i =>
                  cases h2 with
                  | int j =>
                    cases h3 with
                    | int l =>
                      rw [show ([PyData.int i, PyData.int j, PyData.int l].all wholeP) = true from rfl]
                      refine ⟨_, rfl, .inl ⟨rfl, _, rfl, ?_⟩⟩
                      rw [eqS, decide_eq_true w2]
                      refine ⟨_, rfl, .inr (.inl ⟨p1, _, 2, _, rfl, rfl, tr3, rfl, .inl ⟨_, _, rfl, rfl, _, rfl, ?_⟩⟩)⟩
                      have z2 : Q (.bl (boundsB (.int i) (.int j) && (decide ((1 : Int) ≤ l) && decide (l ≤ 9)))) H3 := z
                      by_cases l1 : (1 : Int) ≤ l
                      · rw [decide_eq_true l1] at z2 ⊢
                        refine .inl ⟨_, _, rfl, rfl, _, rfl, ?_⟩
                        by_cases l9 : l ≤ 9
                        · rw [decide_eq_true l9] at z2 ⊢
                          rw [Bool.true_and, Bool.and_true, ← bounds_of] at z2
                          exact in_bounds rfl tr3 rfl rfl z2
                        · rw [decide_eq_false l9] at z2 ⊢
                          rw [Bool.and_false, Bool.and_false] at z2
                          exact z2
                      · rw [decide_eq_false l1] at z2 ⊢
                        rw [Bool.false_and, Bool.and_false] at z2
                        exact ⟨_, rfl, z2⟩
                    | _ =>
                      have z2 : Q (.bl (boundsB (.int i) (.int j) && false)) H3 := z
                      rw [Bool.and_false] at z2
                      exact z2
                  | _ =>
                    have z2 : Q (.bl (((decide (-big ≤ i) && decide (i ≤ big)) && false) && wholeB d3 1 9)) H3 := z
                    rw [Bool.and_false, Bool.false_and] at z2
                    exact z2
                | _ => exact z
            · rw [decide_eq_false hl]
              have z := q2 H2 (Same.refl H2)
              rw [tail_dec w1 w2, un3 hl] at z
              exact z
          rw [decide_eq_false w2]
          refine ⟨_, rfl, .inl ⟨rfl, _, rfl, ?_⟩⟩
          rw [eqS]
          by_cases w3 : w = "text"
          · rw [decide_eq_true w3]
            refine ⟨_, rfl, .inl ⟨p1, vs, rfl, .inr tr2, .inl ⟨rfl, ?_⟩⟩⟩
            rw [eqI, el]
            by_cases hl : (ds.length : Int) = 1
            · rw [decide_eq_true hl]
              obtain ⟨v1, d1, rfl, rfl, h1⟩ := len1 dr2 hl
              · rw [tail_text w1 w2 w3] at q2
                replace q2 : ∀ H', Same H2 H' → Q (.bl (wholeB d1 1 1000)) H' := q2
                refine ⟨_, rfl, _, rfl, .inr (.inl ⟨p1, _, 0, v1, rfl, rfl, tr2, rfl, ?_⟩)⟩
                refine ⟨v1, d1, rfl, h1, _, rfl, ?_⟩
                have z := q2 H2 (Same.refl H2)
                cases h1 with
                | int l =>
                  refine ⟨_, rfl, .inr (.inl ⟨p1, _, 0, _, rfl, rfl, tr2, rfl, .inl ⟨_, _, rfl, rfl, _, rfl, ?_⟩⟩)⟩
                  have z2 : Q (.bl (decide ((1 : Int) ≤ l) && decide (l ≤ 1000))) H2 := z
                  cases h1l : decide ((1 : Int) ≤ l) with
                  | true =>
                    rw [h1l, Bool.true_and] at z2
                    exact .inl ⟨_, _, rfl, rfl, z2⟩
                  | false =>
                    rw [h1l, Bool.false_and] at z2
                    exact z2
                | _ => exact z
            · rw [decide_eq_false hl]
              have z := q2 H2 (Same.refl H2)
              rw [tail_text w1 w2 w3, un1 hl] at z
              exact ⟨_, rfl, z⟩
          rw [decide_eq_false w3]
          refine ⟨_, rfl, .inl ⟨rfl, _, rfl, ?_⟩⟩
          rw [eqS]
          by_cases w4 : w = "choice"
          · rw [decide_eq_true w4]
            refine ⟨_, rfl, .inl ⟨p1, vs, rfl, .inr tr2, .inl ⟨rfl, _, rfl, ?_⟩⟩⟩
            rw [eqI, el]
            by_cases hl : (ds.length : Int) = 1
            · rw [decide_eq_true hl]
              obtain ⟨v1, d1, rfl, rfl, h1⟩ := len1 dr2 hl
              · rw [tail_choice w1 w2 w3 w4] at q2
                replace q2 : ∀ H', Same H2 H' → Q (.bl (wordsB d1)) H' := q2
                refine ⟨_, rfl, .inr (.inl ⟨p1, _, 0, v1, rfl, rfl, tr2, rfl, v1, "tuple", d1, rfl, by simp, h1, _, rfl, ?_⟩)⟩
                simp only [cleans, Bool.and_eq_true] at cl
                simp only [wss] at sm
                have z := fun H' z => q2 H' z
                cases h1 with
                | @tup b us es eb rb =>
                  have tb : SqT K H2 b us := .inl (.inl eb)
                  have ub := rb.length
                  refine ⟨_, rfl, .inr (.inl ⟨p1, _, 0, _, rfl, rfl, tr2, rfl, .inl ⟨b, us, rfl, .inr tb, .inl ⟨_, _, rfl, rfl, _, rfl, ?_⟩⟩⟩)⟩
                  rw [ub]
                  have q3 : ∀ H', Same H2 H' → Q (.bl (if decide ((1 : Int) ≤ es.length) && decide ((es.length : Int) ≤ 20) then (es.all wordB && decide ((once (es.map strOf)).length = es.length)) else false)) H' := q2
                  simp only [ws] at sm
                  simp only [clean] at cl
                  by_cases l1 : (1 : Int) ≤ es.length
                  · rw [decide_eq_true l1, Bool.true_and] at q3
                    rw [decide_eq_true l1]
                    refine .inl ⟨_, _, rfl, rfl, _, rfl, ?_⟩
                    by_cases l2 : (es.length : Int) ≤ 20
                    · rw [decide_eq_true l2] at q3 ⊢
                      refine all_words (K := K) rfl tr2 rfl tb rb (by omega) cl.2.1 (show 3 < 4 from by decide) fun H3 s3 => ⟨_, rfl, ?_⟩
                      cases ha : es.all wordB with
                      | true =>
                        rw [ha, Bool.true_and] at q3
                        have ex := all_texts rb ha
                        have tr3 := Same.seqT s3 tr2
                        have tb3 := Same.seqT s3 tb
                        refine ⟨_, rfl, .inr (.inl ⟨p1, _, 0, _, rfl, rfl, tr3, rfl, b, es.map strOf, rfl, by rw [← ex]; exact tb3, by rw [List.length_map]; omega, ?_⟩)⟩
                        refine ⟨_, rfl, .inr (.inl ⟨p1, _, 0, _, rfl, rfl, tr3, rfl, .inl ⟨b, us, rfl, .inr tb3, .inl ⟨rfl, ?_⟩⟩⟩)⟩
                        rw [ub]
                        have e : decide (V.int ((once (es.map strOf)).length : Nat) = V.int (es.length : Nat)) = decide ((once (es.map strOf)).length = es.length) := by
                          rw [eqI]
                          by_cases z : (once (es.map strOf)).length = es.length
                          · rw [z]; simp
                          · rw [decide_eq_false z, decide_eq_false (by omega)]
                        rw [e]
                        exact q3 H3 s3
                      | false =>
                        rw [ha, Bool.false_and] at q3
                        exact q3 H3 s3
                    · rw [decide_eq_false l2] at q3 ⊢
                      exact q3 H2 (Same.refl H2)
                  · rw [decide_eq_false l1, Bool.false_and] at q3
                    rw [decide_eq_false l1]
                    exact ⟨_, rfl, q3 H2 (Same.refl H2)⟩
                | _ => exact q2 H2 (Same.refl H2)
            · rw [decide_eq_false hl]
              have z := q2 H2 (Same.refl H2)
              rw [tail_choice w1 w2 w3 w4, un1 hl] at z
              exact z
          rw [decide_eq_false w4]
          rw [tail_else w1 w2 w3 w4] at q2
          refine ⟨_, rfl, Nat.le_trans (show 2 ≤ 1000 by decide) (by decide), fun p3 hp3 => ⟨p3, _, rfl, .inr (.inl (.inl upd_same)), rfl, rfl, _, congrArg V.bl (in_two w _ _), ?_⟩⟩
          have s3 : Same H2 (upd H2 p3 (.tup [.str "truth", .str "date"])) := Same.new hp3
          have tr3 := Same.seqT s3 tr2
          have q3 : ∀ H', Same (upd H2 p3 (.tup [.str "truth", .str "date"])) H' → Q (.bl ((decide (w = "truth") || decide (w = "date")) && ds.isEmpty)) H' := fun H' z => q2 H' (s3.trans z)
          generalize upd H2 p3 (.tup [.str "truth", .str "date"]) = H3 at s3 tr3 q3
          cases hb : (decide (w = "truth") || decide (w = "date")) with
          | true =>
            refine ⟨_, rfl, Nat.zero_le _, fun p4 hp4 => ?_⟩
            refine .inr (.inr (.inl ⟨p1, p4, vs, rfl, rfl, Same.seqT (Same.new hp4) tr3, .inl (.inl upd_same), ?_⟩))
            have z := q3 _ (Same.new (o := .tup []) hp4)
            rw [hb, Bool.true_and, ← len0 dr2] at z
            cases vs with
            | nil => exact z
            | cons _ _ => exact z
          | false =>
            have z := q3 H3 (Same.refl H3)
            rw [hb, Bool.false_and] at z
            exact z
        | _ => exact q _ s0
    | _ => exact q H (Same.refl H)
end
end K01

namespace K01
open PySem L2 Xg
mutual
/-- data of the draws: small ints, short texts of ASCII characters but the percent sign, no dict but the empty one -/
def fine : PyData → Bool
  | .int i => decide (i.natAbs < 10 ^ 20)
  | .str x => x.cps.toList.all fun c => decide (c < 128) && c != 37
  | .list xs => fines xs
  | .tuple xs => fines xs
  | .dict kvs => kvs.isEmpty
  | _ => true
def fines : List PyData → Bool
  | [] => true
  | x :: xs => fine x && fines xs
end
mutual
def deep : PyData → Nat
  | .list xs => deeps xs + 1
  | .tuple xs => deeps xs + 1
  | _ => 0
def deeps : List PyData → Nat
  | [] => 0
  | x :: xs => max (deep x) (deeps xs)
end
def okD (W D : Nat) (d : PyData) : Bool := fine d && (decide (ws d ≤ W) && decide (deep d ≤ D))
theorem okD_mono {W D W' D' : Nat} {d : PyData} (h : okD W D d = true) (h1 : W ≤ W') (h2 : D ≤ D') : okD W' D' d = true := by
  unfold okD at h ⊢
  simp only [Bool.and_eq_true, decide_eq_true_eq] at h ⊢
  exact ⟨h.1, by omega, by omega⟩
section
variable {P : Program} {w : World} {K : PySem.W.Frag} {mg : Str → Option Value} {base : Heap} {c : Addr} {ns : List Int}
def odd1 : List PyData := [.none, .bool true, .bool false, .int 0, .int 1, .int (-1), .int 5, .int 9, .int 10, .int 1000, .int 1001, .int ((10 : Int) ^ (18 : Int).toNat), .int (0 - (10 : Int) ^ (18 : Int).toNat),
  .str "", .str "int", .str "text", .str "truth"]
def odd2 : List PyData := [.str "date", .str (times "a" 20), .str (times "a" 21), .str "\t", .str "yes", .str "decimal", .str "choice", .str "Int", .tuple [], .tuple [.str "int"], .tuple [.str "a", .str "a"], .list []]
def odd3 : List PyData := [.dict [], .tuple [.str "x"], .list [.str "int", .int 0, .int 1], .tuple [.int 1], .tuple [.str "truth"], .tuple [.str "a", .none], .str "0"]
theorem odds_ok : ((odd1 ++ odd2) ++ odd3).all (okD 400 1) = true := by decide +kernel
def sp_odd : Sp := fun vs H Q _ => ∃ m k N, vs = [.ref m] ∧ Src K c ns H m k ∧ k ≤ 1000000000 ∧ Tk N H ∧
  ∀ v d k' H', okD 400 1 d = true → k ≤ k' → k' ≤ k + 1 → But m H H' → Src K c ns H' m k' → Dt (wo N H') v d → Q v H'
theorem ok_odd (T : Tx K mg) (F : FunAt K mg "_law_odd" s__law_odd ["_law_m"]) (D__law_of : Has P w K mg base "_law_of" 2 ["_law_m", "_law_items"] (sp_of (K := K) (c := c) (ns := ns))) :
    Has P w K mg base "_law_odd" 3 ["_law_m"] (sp_odd (K := K) (c := c) (ns := ns)) := by
  refine Has.mk' F sc__law_odd (fun vs H Q E h => ?_) (fun f cdv A outer s H vs Q E hr h => ?_)
  · obtain ⟨m, k, N, rfl, _⟩ := h
    rfl
  · obtain ⟨m, k, N, rfl, S, kb, tk, q⟩ := h
    have hr__law_of := hr
    refine ⟨_, (pss_cons (ps_set (i := 1) sc__law_odd.nd rfl (Or.inl rfl) (pe_lstS (pa_cons pe_non (pa_cons pe_bl (pa_cons pe_bl (pa_cons pe_int (pa_cons pe_int (pa_cons (pe_un un_neg pe_int) (pa_cons pe_int (pa_cons pe_int (pa_cons pe_int (pa_cons pe_int (pa_cons pe_int (pa_cons (pe_op op_pow pe_int pe_int) (pa_cons (pe_op op_sub pe_int (pe_op op_pow pe_int pe_int)) (pa_cons pe_str (pa_cons pe_str (pa_cons pe_str (pa_cons pe_str pa_nil)))))))))))))))))))
      (pss_cons (ps_set (i := 1) sc__law_odd.nd rfl (Or.inl rfl) (pe_op opAddA (pv 1) (pe_lstS (pa_cons pe_str (pa_cons (pe_op opMulA pe_str pe_int) (pa_cons (pe_op opMulA pe_str pe_int) (pa_cons pe_str (pa_cons pe_str (pa_cons pe_str (pa_cons pe_str (pa_cons pe_str (pa_cons (pe_tup pa_nil) (pa_cons (pe_tup (pa_cons pe_str pa_nil)) (pa_cons (pe_tup (pa_cons pe_str (pa_cons pe_str pa_nil))) (pa_cons (pe_lstS pa_nil) pa_nil)))))))))))))))
      (pss_one (ps_ret (pe_own D__law_of hr__law_of rfl (pa_cons (pv 0) (pa_cons (pe_op opAddA (pv 1) (pe_lstS (pa_cons pe_dnewK (pa_cons (pe_tup (pa_cons pe_str pa_nil)) (pa_cons (pe_lstS (pa_cons pe_str (pa_cons pe_int (pa_cons pe_int pa_nil)))) (pa_cons (pe_tup (pa_cons pe_int pa_nil)) (pa_cons (pe_tup (pa_cons pe_str pa_nil)) (pa_cons (pe_tup (pa_cons pe_str (pa_cons pe_non pa_nil))) (pa_cons pe_str pa_nil))))))))) pa_nil))))))), ?_⟩
    refine seqN (GvL.lst (ds := odd1) ?a (by decide) tk H _ (Same.refl H) fun l1 vs1 H1 s1 e1 d1 => ?_)
    case a => unfold odd1; repeat' (first | with_reducible exact Gv.non | with_reducible exact Gv.bl | with_reducible exact Gv.int | with_reducible exact Gv.str | with_reducible exact Gv.emp | with_reducible exact Ga.nil | with_reducible refine Ga.cons ?_ ?_ | with_reducible refine Gv.tup ?_ (by decide) | with_reducible refine Gv.lst ?_ (by decide) | with_reducible refine Gv.neg ?_ | with_reducible refine Gv.sub ?_ ?_ | exact Gv.pow Gv.int Gv.int cp1018 | refine Gv.mulS (Gv.str) (Gv.int) (by decide) (by decide) (by decide))
    refine seqN (GvL.cat (xs := odd1) (ys := odd2) (GvL.var rfl e1 d1) (GvL.lst ?a (by decide)) (by decide) (tk.same s1) H1 _ (Same.refl H1) fun l2 vs2 H2 s2 e2 d2 => ?_)
    case a => unfold odd2; repeat' (first | with_reducible exact Gv.non | with_reducible exact Gv.bl | with_reducible exact Gv.int | with_reducible exact Gv.str | with_reducible exact Gv.emp | with_reducible exact Ga.nil | with_reducible refine Ga.cons ?_ ?_ | with_reducible refine Gv.tup ?_ (by decide) | with_reducible refine Gv.lst ?_ (by decide) | with_reducible refine Gv.neg ?_ | with_reducible refine Gv.sub ?_ ?_ | exact Gv.pow Gv.int Gv.int cp1018 | refine Gv.mulS (Gv.str) (Gv.int) (by decide) (by decide) (by decide))
    refine retN (ownA (varC rfl (oneC (GvL.cat (xs := odd1 ++ odd2) (ys := odd3) (GvL.var rfl e2 d2) (GvL.lst ?a (by decide)) (by decide) ((tk.same s1).same s2) H2 _ (Same.refl H2) fun l3 vs3 H3 s3 e3 d3 => ?_))))
    case a => unfold odd3; repeat' (first | with_reducible exact Gv.non | with_reducible exact Gv.bl | with_reducible exact Gv.int | with_reducible exact Gv.str | with_reducible exact Gv.emp | with_reducible exact Ga.nil | with_reducible refine Ga.cons ?_ ?_ | with_reducible refine Gv.tup ?_ (by decide) | with_reducible refine Gv.lst ?_ (by decide) | with_reducible refine Gv.neg ?_ | with_reducible refine Gv.sub ?_ ?_ | exact Gv.pow Gv.int Gv.int cp1018 | refine Gv.mulS (Gv.str) (Gv.int) (by decide) (by decide) (by decide))
    have s : Same H H3 := (s1.trans s2).trans s3
    have S3 := S.same s
    have n3 : vs3.length = 36 := d3.length
    refine ⟨m, l3, vs3, k, rfl, .inl (.inl (.inl e3)), by omega, by omega, S3, kb, fun v k' H' hv h1 h2 b S' => ?_⟩
    obtain ⟨d, hd, dd⟩ := Dts.mem d3 hv
    exact q v d k' H' (List.all_eq_true.mp odds_ok d hd) h1 h2 (But.trans (But.of_same s) b) S' (Dt.butW S3.full b dd)
end
end K01

namespace K01
open PySem L2 Xg
theorem log_lt {i : Int} (h1 : -big ≤ i) (h2 : i ≤ big) : i.natAbs.log2 < 60 := by
  have : i.natAbs < 2 ^ 60 := by
    have e : big = 999999999999999999 := rfl
    omega
  exact PySem.Flt.log2_lt_of (by decide : 0 < 60) this
theorem int_ok {i : Int} (h1 : -big ≤ i) (h2 : i ≤ big) : okD 80 0 (.int i) = true := by
  have l := log_lt h1 h2
  have e : big = 999999999999999999 := rfl
  unfold okD
  rw [show fine (.int i) = decide (i.natAbs < 10 ^ 20) from rfl, show ws (.int i) = i.natAbs.log2 + 10 from rfl, show deep (.int i) = 0 from rfl]
  rw [decide_eq_true (by omega), decide_eq_true (by omega)]
  rfl
theorem all_ok {W D : Nat} : ∀ {ds : List PyData}, ds.all (okD W D) = true → fines ds = true ∧ wss ds ≤ ds.length * (W + 2) ∧ deeps ds ≤ D
  | [], _ => ⟨rfl, Nat.zero_le _, Nat.zero_le _⟩
  | d :: ds, h => by
    rw [List.all_cons, Bool.and_eq_true] at h
    obtain ⟨h1, h2, h3⟩ := all_ok h.2
    have h0 := h.1
    unfold okD at h0
    simp only [Bool.and_eq_true, decide_eq_true_eq] at h0
    refine ⟨?_, ?_, ?_⟩
    · rw [show fines (d :: ds) = (fine d && fines ds) from rfl, h0.1, h1]
      rfl
    · rw [show wss (d :: ds) = ws d + 2 + wss ds from rfl, List.length_cons, Nat.add_mul]
      omega
    · rw [show deeps (d :: ds) = max (deep d) (deeps ds) from rfl]
      omega
theorem tup_ok {W D W' D' : Nat} {ds : List PyData} (h : ds.all (okD W D) = true) (h1 : 10 + ds.length * (W + 2) ≤ W') (h2 : D + 1 ≤ D') : okD W' D' (.tuple ds) = true := by
  obtain ⟨a, b, c⟩ := all_ok h
  unfold okD
  rw [show fine (.tuple ds) = fines ds from rfl, show ws (.tuple ds) = 10 + wss ds from rfl, show deep (.tuple ds) = deeps ds + 1 from rfl, a, decide_eq_true (by omega), decide_eq_true (by omega)]
  rfl
theorem But.mut {m p : Addr} {H H' : Hp} {o : HO} (b : But m H H') (h : H p = none) : But m H (upd H' p o) := fun a u n e => by
  rw [upd_ne (ne_of_none e h)]
  exact b a u n e
theorem two_sorted {i j : Int} {ns : List Int} (p : ns.Perm [i, j]) (s : ns.Pairwise (· ≤ ·)) : ∃ lo hi, ns = [lo, hi] ∧ lo ≤ hi ∧ (lo = i ∨ lo = j) ∧ (hi = i ∨ hi = j) := by
  have l := p.length_eq
  match ns, l, p, s with
  | [a, b], _, p, s =>
    refine ⟨a, b, rfl, ?_, ?_, ?_⟩
    · exact List.rel_of_pairwise_cons s (by simp)
    · have := p.subset (List.mem_cons_self)
      simpa using this
    · have := p.subset (List.mem_cons_of_mem a List.mem_cons_self)
      simpa using this
def ints1 : List PyData := [.int 0, .int 1, .int (-1), .int 7, .int (-9), .int 99, .int (-350), .int 12345, .int ((10 : Int) ^ (18 : Int).toNat - 1), .int (1 - (10 : Int) ^ (18 : Int).toNat)]
def ints2 : List PyData := [.int 1, .int 2, .int 5, .int 20, .int 999, .int 1000]
def words1 : List PyData := [.str "yes", .str "no", .str "a", .str "b", .str "A", .str " ", .str "x y", .str (times "~" 20), .str "a\n", .str "0", .str "1.0", .str "ab"]
def tups1 : List PyData := [.tuple [.str "truth"], .tuple [.str "date"]]
theorem strs_dts {H : Hp} : ∀ fs : List Str, Dts H (fs.map V.str) (fs.map PyData.str)
  | [] => .nil
  | x :: fs => .cons (.str x) (strs_dts fs)
theorem map_erase {α β : Type} (f : α → β) : ∀ (l : List α) (k : Nat), (l.map f).eraseIdx k = (l.eraseIdx k).map f
  | [], _ => rfl
  | _ :: _, 0 => rfl
  | a :: l, k + 1 => by
    show f a :: (l.map f).eraseIdx k = f a :: (l.eraseIdx k).map f
    rw [map_erase f l k]
theorem perm_erase {α : Type} : ∀ (l : List α) (k : Nat) (h : k < l.length), ([l[k]] ++ l.eraseIdx k).Perm l
  | a :: l, 0, _ => List.Perm.refl _
  | a :: l, k + 1, h => by
    have h' : k < l.length := by simpa using h
    show (l[k] :: a :: l.eraseIdx k).Perm (a :: l)
    exact (List.Perm.swap a l[k] _).trans (List.Perm.cons a (perm_erase l k h'))
theorem itT {p q : Prop} (h : p) : if true = true then p else q := h
theorem once_fold : ∀ (l acc : List Str), (acc ++ l).Nodup → l.foldl (fun acc x => if x ∈ acc then acc else acc ++ [x]) acc = acc ++ l
  | [], acc, _ => by simp
  | x :: l, acc, h => by
    have nx : x ∉ acc := by
      intro z
      have := (List.nodup_append.mp h).2.2 x z x List.mem_cons_self
      exact this rfl
    rw [List.foldl_cons, if_neg nx, once_fold l (acc ++ [x]) (by simpa using h)]
    simp
theorem once_nodup {l : List Str} (h : l.Nodup) : once l = l := by
  unfold once
  rw [once_fold l [] (by simpa using h)]
  rfl
theorem ne_full {m a : Addr} {H : Hp} {xs : List V} (f : Full H m) (e : H a = some (.lst xs)) : a ≠ m := fun z => by
  obtain ⟨kv, kvs, q⟩ := f
  rw [z, q] at e
  cases e
theorem same_none {H H' : Hp} {a : Addr} (s : Same H H') (h : H' a = none) : H a = none := by
  cases e : H a with
  | none => rfl
  | some o => rw [s _ _ e] at h; cases h
theorem words1_ok : words1.all wordB = true := by decide +kernel
theorem words1_two : words1.all (okD 300 0) = true := by decide +kernel
theorem words1_nd : (words1.map strOf).Nodup := by decide +kernel
theorem words1_str : (words1.map strOf).map PyData.str = words1 := rfl
theorem seq_in {n : Nat} {i : Int} (h0 : 0 ≤ i) (h1 : i < n) : seqIndex? i n = some i.toNat := by
  unfold seqIndex?
  rw [if_neg (by omega : ¬ i < 0)]
  show (if (decide (0 ≤ i) && decide (i < (n : Int))) = true then some i.toNat else none) = some i.toNat
  rw [decide_eq_true h0, decide_eq_true h1]
  rfl
theorem Src.mut {K : PySem.W.Frag} {c : Addr} {ns : List Int} {H H' : Hp} {m p : Addr} {k k' : Nat} {o : HO} (S : Src K c ns H m k) (b : But m H H') (S' : Src K c ns H' m k') (hp : H p = none) : Src K c ns (upd H' p o) m k' := by
  obtain ⟨l, e, hc, few, l0⟩ := S.ex
  obtain ⟨l', e', hc', few', l0'⟩ := S'.ex
  exact ⟨l', by rw [upd_ne (ne_of_none e hp)]; exact e', But.seq (But.mut b hp) S.full hc, few, l0'⟩
def isB (lo hi : Int) : PyData → Bool
  | .int i => decide (lo ≤ i) && decide (i ≤ hi)
  | _ => false
theorem isB_int {lo hi : Int} {d : PyData} (h : isB lo hi d = true) : ∃ i, d = .int i ∧ lo ≤ i ∧ i ≤ hi := by
  cases d with
  | int i =>
    unfold isB at h
    simp only [Bool.and_eq_true, decide_eq_true_eq] at h
    exact ⟨i, rfl, h⟩
  | _ => cases h
theorem ints1_ok : ints1.all (isB (-big) big) = true := by decide +kernel
theorem ints2_ok : ints2.all (isB 1 1000) = true := by decide +kernel
theorem tups1_ok : tups1.all (fun d => okD 300 2 d && kindB d) = true := by decide +kernel
section
variable {P : Program} {w : World} {K : PySem.W.Frag} {mg : Str → Option Value} {base : Heap} {c : Addr} {ns : List Int}
def sp_kind : Sp := fun vs H Q _ => ∃ m k N, vs = [.ref m] ∧ Src K c ns H m k ∧ k ≤ 999000000 ∧ Tk N H ∧
  ∀ v d k' H', okD 5000 2 d = true → kindB d = true → k ≤ k' → k' ≤ k + 20 → But m H H' → Src K c ns H' m k' → Dt (wo N H') v d → Q v H'
theorem ok_kind (T : Tx K mg) (F : FunAt K mg "_law_kind" s__law_kind ["_law_m"]) (D__law_of : Has P w K mg base "_law_of" 2 ["_law_m", "_law_items"] (sp_of (K := K) (c := c) (ns := ns)))
    (D__law_next : Has P w K mg base "_law_next" 1 ["_law_m", "_law_total"] (sp_next (K := K) (c := c) (ns := ns))) :
    Has P w K mg base "_law_kind" 3 ["_law_m"] (sp_kind (K := K) (c := c) (ns := ns)) := by
  refine Has.mk' F sc__law_kind (fun vs H Q E h => ?_) (fun f cdv A outer s H vs Q E hr h => ?_)
  · obtain ⟨m, k, N, rfl, _⟩ := h
    rfl
  · obtain ⟨m, k, N, rfl, S, kb, tk, q⟩ := h
    have hu : (bodyCx P w K mg base N__law_kind "_law_kind" s__law_kind f cdv A outer s H E).A.units + 64 < cLine := hr.units
    have hr__law_of := hr
    have hr__law_next := hr.mono (show 1 ≤ 2 by decide)
    refine ⟨_, (pss_cons (ps_par (i := 1) (j := 2) rfl sc__law_kind.nd rfl rfl (by decide) rfl rfl (pa_cons (pe_own D__law_next hr__law_next rfl (pa_cons (pv 0) (pa_cons pe_int pa_nil))) (pa_cons (pe_lstS (pa_cons pe_int (pa_cons pe_int (pa_cons (pe_un un_neg pe_int) (pa_cons pe_int (pa_cons (pe_un un_neg pe_int) (pa_cons pe_int (pa_cons (pe_un un_neg pe_int) (pa_cons pe_int (pa_cons (pe_op op_sub (pe_op op_pow pe_int pe_int) pe_int) (pa_cons (pe_op op_sub pe_int (pe_op op_pow pe_int pe_int)) pa_nil))))))))))) pa_nil)) rfl)
      (pss_cons (ps_asg (pe_callB cr_sorted rfl T.z_sorted B.sorted (pa_cons (pe_lstS (pa_cons (pe_own D__law_of hr__law_of rfl (pa_cons (pv 0) (pa_cons (pv 2) pa_nil))) (pa_cons (pe_own D__law_of hr__law_of rfl (pa_cons (pv 0) (pa_cons (pv 2) pa_nil))) pa_nil))) pa_nil)) (pg_unl rfl (pgs_cons (pg_name (i := 3) sc__law_kind.nd rfl (Or.inl rfl)) (pgs_cons (pg_name (i := 4) sc__law_kind.nd rfl (Or.inl rfl)) pgs_nil))))
      (pss_cons (ps_if (pt_cmpR opLtA (pv 1) pe_int (nomark _))
        (pss_one (ps_ret (pe_tup (pa_cons pe_str (pa_cons (pv 3) (pa_cons (pv 4) pa_nil))))))
        pss_nil)
      (pss_cons (ps_if (pt_cmpR opLtA (pv 1) pe_int (nomark _))
        (pss_one (ps_ret (pe_tup (pa_cons pe_str (pa_cons (pv 3) (pa_cons (pv 4) (pa_cons (pe_op opAddA pe_int (pe_own D__law_next hr__law_next rfl (pa_cons (pv 0) (pa_cons pe_int pa_nil)))) pa_nil)))))))
        pss_nil)
      (pss_cons (ps_if (pt_cmpR (opEqA (by exact hu)) (pv 1) pe_int (nomark _))
        (pss_one (ps_ret (pe_tup (pa_cons pe_str (pa_cons (pe_own D__law_of hr__law_of rfl (pa_cons (pv 0) (pa_cons (pe_lstS (pa_cons pe_int (pa_cons pe_int (pa_cons pe_int (pa_cons pe_int (pa_cons pe_int (pa_cons pe_int pa_nil))))))) pa_nil))) pa_nil)))))
        pss_nil)
      (pss_cons (ps_if (pt_cmpR (opEqA (by exact hu)) (pv 1) pe_int (nomark _))
        (pss_cons (ps_par (i := 5) (j := 6) rfl sc__law_kind.nd rfl rfl (by decide) rfl rfl (pa_cons (pe_lstS (pa_cons pe_str (pa_cons pe_str (pa_cons pe_str (pa_cons pe_str (pa_cons pe_str (pa_cons pe_str (pa_cons pe_str (pa_cons (pe_op opMulA pe_str pe_int) (pa_cons pe_str (pa_cons pe_str (pa_cons pe_str (pa_cons pe_str pa_nil))))))))))))) (pa_cons (pe_lstS pa_nil) pa_nil)) rfl)
        (pss_cons (ps_for PassesOwn.never rfl (pi_range1 rfl T.z_range (pa_cons (pe_op opAddA pe_int (pe_own D__law_next hr__law_next rfl (pa_cons (pv 0) (pa_cons pe_int pa_nil)))) pa_nil)) (pg_name (i := 7) sc__law_kind.nd rfl (Or.inl rfl))
          (pss_one (ps_expr (pe_bm PySem.F.plainAttrs_list PySem.F.slot_list_append PySem.F.type_list_append mt_append (pv 6) (pa_cons (pe_bm PySem.F.plainAttrs_list PySem.F.slot_list_pop PySem.F.type_list_pop mt_popAt (pv 5) (pa_cons (pe_own D__law_next hr__law_next rfl (pa_cons (pv 0) (pa_cons (pe_callB callLenA rfl T.z_len B.len (pa_cons (pv 5) pa_nil)) pa_nil))) pa_nil)) pa_nil)))))
        (pss_one (ps_ret (pe_tup (pa_cons pe_str (pa_cons (pe_callTy call_tuple_of rfl T.z_tuple B.tuple (pa_cons (pv 6) pa_nil)) pa_nil)))))))
        pss_nil)
      (pss_one (ps_ret (pe_own D__law_of hr__law_of rfl (pa_cons (pv 0) (pa_cons (pe_lstS (pa_cons (pe_tup (pa_cons pe_str pa_nil)) (pa_cons (pe_tup (pa_cons pe_str pa_nil)) pa_nil))) pa_nil))))))))))), ?_⟩
    refine ⟨_, rfl, m, 7, k, rfl, by decide, by decide, S, by omega, fun way k1 H1 w0 w7 ka kb1 b1 S1 => ?_⟩
    have tk1 := tk_but S1.full b1 tk
    refine GvL.lst (ds := ints1) ?a (by decide) tk1 H1 _ (Same.refl H1) fun l2 vs2 H2 s2 e2 d2 => ⟨_, _, rfl, ?_⟩
    case a => unfold ints1; repeat' (first | with_reducible exact Gv.non | with_reducible exact Gv.bl | with_reducible exact Gv.int | with_reducible exact Gv.str | with_reducible exact Gv.emp | with_reducible exact Ga.nil | with_reducible refine Ga.cons ?_ ?_ | with_reducible refine Gv.tup ?_ (by decide) | with_reducible refine Gv.lst ?_ (by decide) | with_reducible refine Gv.neg ?_ | with_reducible refine Gv.sub ?_ ?_ | exact Gv.pow Gv.int Gv.int cp1018 | refine Gv.mulS (Gv.str) (Gv.int) (by decide) (by decide) (by decide))
    have S2 := S1.same s2
    have b2 : But m H H2 := b1.trans (But.of_same s2)
    have n2 : vs2.length = 10 := d2.length
    have look : ∀ v, v ∈ vs2 → ∃ i : Int, v = .int i ∧ -big ≤ i ∧ i ≤ big := fun v hv => by
      obtain ⟨d, hd, dd⟩ := Dts.mem d2 hv
      obtain ⟨i, rfl, h⟩ := isB_int (List.all_eq_true.mp ints1_ok d hd)
      cases dd
      exact ⟨i, rfl, h⟩
    have q2 : SqL K H2 l2 vs2 := .inl (.inl e2)
    refine ⟨_, rfl, _, rfl, m, l2, vs2, k1, rfl, .inl q2, by omega, by omega, S2, by omega, fun v1 k2 H3 hv1 kc kd b3 S3 => ?_⟩
    have q3 := But.seq b3 S2.full q2
    refine ⟨_, rfl, _, rfl, m, l2, vs2, k2, rfl, .inl q3, by omega, by omega, S3, by omega, fun v2 k3 H4 hv2 ke kf b4 S4 => ?_⟩
    obtain ⟨i, rfl, i1, i2⟩ := look v1 hv1
    obtain ⟨j, rfl, j1, j2⟩ := look v2 hv2
    refine ⟨by show 2 ≤ sizeLine; exact Nat.le_trans (show 2 ≤ 1000 by decide) (by decide), fun p hp _ => ⟨p, [i, j], rfl, .inl (.inl upd_same), (show 2 < 64 by decide), fun ns p2 perm sorted hp2 => ?_⟩⟩
    obtain ⟨lo, hi, rfl, le, hlo, hhi⟩ := two_sorted perm sorted
    have s5 : Same H4 (upd (upd H4 p (.lst [.int i, .int j])) p2 (.lst ([lo, hi].map V.int))) := (Same.new hp).trans (Same.new hp2)
    refine ⟨p2, _, rfl, .inl (.inl upd_same), rfl, _, _, rfl, _, _, rfl, rfl, ?_⟩
    have S5 := S4.same s5
    have tk5 := (tk_but S4.full b4 (tk_but S3.full b3 (tk1.same s2))).same s5
    have b5 : But m H (upd (upd H4 p (.lst [.int i, .int j])) p2 (.lst ([lo, hi].map V.int))) := ((b2.trans b3).trans b4).trans (But.of_same s5)
    generalize upd (upd H4 p (.lst [.int i, .int j])) p2 (.lst ([lo, hi].map V.int)) = H5 at S5 b5 s5 tk5
    have lo1 : -big ≤ lo := by rcases hlo with rfl | rfl <;> assumption
    have lo2 : lo ≤ big := by rcases hlo with rfl | rfl <;> assumption
    have hi1 : -big ≤ hi := by rcases hhi with rfl | rfl <;> assumption
    have hi2 : hi ≤ big := by rcases hhi with rfl | rfl <;> assumption
    have bnd : boundsB (.int lo) (.int hi) = true := by
      show ((decide (-big ≤ lo) && decide (lo ≤ big)) && (decide (lo ≤ hi) && decide (hi ≤ big))) = true
      rw [decide_eq_true lo1, decide_eq_true lo2, decide_eq_true le, decide_eq_true hi2]
      rfl
    refine ⟨_, rfl, .inl ⟨_, _, rfl, rfl, _, rfl, ?_⟩⟩
    by_cases w1 : way < 2
    · rw [decide_eq_true w1]
      refine Gv.tup (ds := [.str "int", .int lo, .int hi]) (Ga.cons .str (Ga.cons (.var rfl (.int lo)) (Ga.cons (.var rfl (.int hi)) .nil))) (Nat.le_trans (show 3 ≤ 1000 by decide) (by decide)) tk5 H5 _ (Same.refl H5) fun v H6 s6 d6 => ?_
      refine q v (.tuple [.str "int", .int lo, .int hi]) k3 H6 (tup_ok (W := 80) (D := 0) ?_ (show 10 + 3 * (80 + 2) ≤ 5000 by decide) (by decide)) bnd (by omega) (by omega) (b5.trans (But.of_same s6)) (S5.same s6) d6
      rw [List.all_cons, List.all_cons, List.all_cons, int_ok lo1 lo2, int_ok hi1 hi2]
      decide +kernel
    rw [decide_eq_false w1]
    refine ⟨_, rfl, .inl ⟨_, _, rfl, rfl, _, rfl, ?_⟩⟩
    by_cases w2 : way < 4
    · rw [decide_eq_true w2]
      refine ⟨_, rfl, _, rfl, _, rfl, m, 9, k3, rfl, by decide, by decide, S5, by omega, fun r k4 H6 r0 r9 kg kh b6 S6 => .inl ⟨_, _, rfl, rfl, ?_⟩⟩
      refine ⟨Nat.le_trans (show 4 ≤ 1000 by decide) (by decide), fun p6 hp6 => ?_⟩
      have s7 : Same H6 (upd H6 p6 (.tup [.str "decimal", .int lo, .int hi, .int (1 + r)])) := Same.new hp6
      refine q _ (.tuple [.str "decimal", .int lo, .int hi, .int (1 + r)]) k4 _ (tup_ok (W := 120) (D := 0) ?_ (show 10 + 4 * (120 + 2) ≤ 5000 by decide) (by decide)) ?_ (by omega) (by omega) ((b5.trans b6).trans (But.of_same s7)) (S6.same s7)
        (.tup (wo_upd ((tk_but S6.full b6 tk5).ne hp6)) (.cons (.str _) (.cons (.int _) (.cons (.int _) (.cons (.int _) .nil)))))
      · have up : ∀ d, okD 80 0 d = true → okD 120 0 d = true := fun d h => okD_mono h (by decide) (by decide)
        have e : big = 999999999999999999 := rfl
        rw [List.all_cons, List.all_cons, List.all_cons, List.all_cons, up _ (int_ok lo1 lo2), up _ (int_ok hi1 hi2), up _ (int_ok (i := 1 + r) (by omega) (by omega))]
        decide +kernel
      · show (boundsB (.int lo) (.int hi) && (decide ((1 : Int) ≤ 1 + r) && decide (1 + r ≤ 9))) = true
        rw [bnd, decide_eq_true (by omega), decide_eq_true (by omega)]
        rfl
    rw [decide_eq_false w2]
    refine ⟨_, rfl, .inl ⟨rfl, _, rfl, ?_⟩⟩
    rw [eqI]
    by_cases w3 : way = 4
    · rw [decide_eq_true w3]
      refine ⟨_, rfl, ?_⟩
      refine oneC (GvL.lst (ds := ints2) ?a2 (by decide) tk5 H5 _ (Same.refl H5) fun l6 vs6 H6 s6 e6 d6 => ?_)
      case a2 => unfold ints2; repeat' (first | with_reducible exact Gv.non | with_reducible exact Gv.bl | with_reducible exact Gv.int | with_reducible exact Gv.str | with_reducible exact Gv.emp | with_reducible exact Ga.nil | with_reducible refine Ga.cons ?_ ?_ | with_reducible refine Gv.tup ?_ (by decide) | with_reducible refine Gv.lst ?_ (by decide) | with_reducible refine Gv.neg ?_ | with_reducible refine Gv.sub ?_ ?_ | exact Gv.pow Gv.int Gv.int cp1018 | refine Gv.mulS (Gv.str) (Gv.int) (by decide) (by decide) (by decide))
      have S6 := S5.same s6
      have n6 : vs6.length = 6 := d6.length
      refine ⟨m, l6, vs6, k3, rfl, .inl (.inl (.inl e6)), by omega, by omega, S6, by omega, fun v k4 H7 hv kg kh b7 S7 => ?_⟩
      obtain ⟨d, hd, dd⟩ := Dts.mem d6 hv
      obtain ⟨n, rfl, n0, n1⟩ := isB_int (List.all_eq_true.mp ints2_ok d hd)
      cases dd
      refine ⟨Nat.le_trans (show 2 ≤ 1000 by decide) (by decide), fun p6 hp6 => ?_⟩
      have s7 : Same H7 (upd H7 p6 (.tup [.str "text", .int n])) := Same.new hp6
      refine q _ (.tuple [.str "text", .int n]) k4 _ (tup_ok (W := 80) (D := 0) ?_ (show 10 + 2 * (80 + 2) ≤ 5000 by decide) (by decide)) ?_ (by omega) (by omega) (((b5.trans (But.of_same s6)).trans b7).trans (But.of_same s7)) (S7.same s7)
        (.tup (wo_upd ((tk_but S7.full b7 (tk5.same s6)).ne hp6)) (.cons (.str _) (.cons (.int _) .nil)))
      · have e : big = 999999999999999999 := rfl
        rw [List.all_cons, List.all_cons, int_ok (i := n) (by omega) (by omega)]
        decide +kernel
      · show (decide ((1 : Int) ≤ n) && decide (n ≤ 1000)) = true
        rw [decide_eq_true n0, decide_eq_true n1]
        rfl
    rw [decide_eq_false w3]
    refine ⟨_, rfl, .inl ⟨rfl, _, rfl, ?_⟩⟩
    rw [eqI]
    by_cases w4 : way = 5
    · rw [decide_eq_true w4]
      refine itT (seqP (headC ?_))
      have ga : Ga N H5 [some (V.ref m), some (.int way), some (.ref l2), some (.int lo), some (.int hi), none, none, none] (tCons (tC (V.str "yes")) (tCons (tC (V.str "no")) (tCons (tC (V.str "a")) (tCons (tC (V.str "b")) (tCons (tC (V.str "A"))
        (tCons (tC (V.str " ")) (tCons (tC (V.str "x y")) (tCons (tOp rMulA (tC (V.str "~")) (tC (V.int 20))) (tCons (tC (V.str "a\n")) (tCons (tC (V.str "0")) (tCons (tC (V.str "1.0")) (tCons (tC (V.str "ab")) tNil)))))))))))) words1 := by
        unfold words1
        repeat' (first | with_reducible exact Gv.non | with_reducible exact Gv.bl | with_reducible exact Gv.int | with_reducible exact Gv.str | with_reducible exact Gv.emp | with_reducible exact Ga.nil | with_reducible refine Ga.cons ?_ ?_ | with_reducible refine Gv.tup ?_ (by decide) | with_reducible refine Gv.lst ?_ (by decide) | with_reducible refine Gv.neg ?_ | with_reducible refine Gv.sub ?_ ?_ | exact Gv.pow Gv.int Gv.int cp1018 | refine Gv.mulS (Gv.str) (Gv.int) (by decide) (by decide) (by decide))
      refine ga tk5 H5 _ (Same.refl H5) fun vw H6 s6 d6 => ?_
      have ew := all_texts d6 words1_ok
      refine ⟨by rw [d6.length]; exact Nat.le_trans (show 12 ≤ 1000 by decide) (by decide), fun lw hw _ => ⟨Nat.zero_le _, fun lf hf _ => ⟨_, _, rfl, ?_⟩⟩⟩
      refine seqI (forI ?_)
      have n5w : H5 lw = none := same_none s6 hw
      have s7 : Same H6 (upd (upd H6 lw (.lst vw)) lf (.lst [])) := (Same.new hw).trans (Same.new hf)
      have e7 : upd (upd H6 lw (.lst vw)) lf (.lst []) lw = some (.lst vw) := Same.new hf _ _ upd_same
      have f7 : upd (upd H6 lw (.lst vw)) lf (.lst []) lf = some (.lst []) := upd_same
      have n5f : H5 lf = none := same_none (s6.trans (Same.new hw)) hf
      have nwf : lf ≠ lw := fun z => by rw [z, upd_same] at hf; cases hf
      generalize upd (upd H6 lw (.lst vw)) lf (.lst []) = H7 at s7 e7 f7
      have S7 := S5.same (s6.trans s7)
      refine ⟨_, rfl, m, 7, k3, rfl, by decide, by decide, S7, by omega, fun r k4 H8 r0 r7 kg kh b8 S8 => .inl ⟨_, _, rfl, rfl, 1 + r, rfl, by omega, by omega, ?_⟩⟩
      have f0 := S5.full
      have b58 : But m H5 H8 := (But.of_same (s6.trans s7)).trans b8
      have mw : lw ≠ m := fun z => by
        obtain ⟨_, _, q⟩ := f0
        rw [← z, n5w] at q
        cases q
      have mf : lf ≠ m := fun z => by
        obtain ⟨_, _, q⟩ := f0
        rw [← z, n5f] at q
        cases q
      have e8 : H8 lw = some (.lst vw) := b8 _ _ mw e7
      have f8 : H8 lf = some (.lst []) := b8 _ _ mf f7
      refine for_it (walk_range (lo := 0) (n := (1 + r).toNat)) (fun i σ' H' => ∃ (x7 : Option V) (us fs : List Str) (k' : Nat), σ' = [some (V.ref m), some (.int way), some (.ref l2), some (.int lo), some (.int hi), some (.ref lw), some (.ref lf), x7] ∧
        H' lw = some (.lst (us.map V.str)) ∧ H' lf = some (.lst (fs.map V.str)) ∧ (fs ++ us).Perm (words1.map strOf) ∧ fs.length = i ∧ Src K c ns H' m k' ∧ k4 ≤ k' ∧ k' ≤ k4 + i ∧ But m H5 H') ?h0 (fun _ _ _ _ _ => trivial) ?hs ?hd
      case h0 =>
        exact ⟨none, words1.map strOf, [], k4, rfl, by rw [← ew]; exact e8, f8, List.Perm.refl _, rfl, S8, Nat.le_refl _, Nat.le_refl _, b58⟩
      case hs =>
        rintro i x σ' H9 H10 hi ⟨x7, us, fs, k', rfl, eu, ef, perm, lenf, S9, kl, kr, b9⟩ ⟨rfl, rfl⟩
        have lenu : us.length + i = 12 := by
          have := perm.length_eq
          rw [List.length_append, lenf] at this
          have e : (words1.map strOf).length = 12 := rfl
          omega
        refine ⟨_, rfl, .inl ⟨rfl, _, .inl (.inl ef)⟩, _, rfl, .inl ⟨rfl, _, .inl (.inl eu)⟩, _, rfl, _, rfl, .inl ⟨lw, _, rfl, .inl (.inl (.inl eu)), m, _, k', rfl, ?_, ?_, S9, by omega, fun q1 k'' H11 z0 z1 ka' kb' b11 S11 => ?_⟩⟩
        · rw [List.length_map]
          omega
        · rw [List.length_map]
          omega
        have e11 : H11 lw = some (.lst (us.map V.str)) := b11 _ _ mw eu
        have f11 : H11 lf = some (.lst (fs.map V.str)) := b11 _ _ mf ef
        have z2 := z1
        rw [List.length_map] at z2
        have hq : q1.toNat < us.length := by omega
        refine ⟨lw, us.map V.str, q1, q1.toNat, .str us[q1.toNat], rfl, rfl, e11, by omega, by omega, seq_in z0 z1, by rw [List.getElem?_map, List.getElem?_eq_getElem hq]; rfl, ?_⟩
        refine ⟨lf, fs.map V.str, .str us[q1.toNat], rfl, rfl, by rw [upd_ne nwf]; exact f11, ?_, ?_⟩
        · rw [List.length_map]
          exact Nat.lt_of_le_of_lt (show fs.length ≤ 1000 by omega) (by decide)
        have b511 : But m H5 H11 := b9.trans b11
        refine ⟨_, us.eraseIdx q1.toNat, fs ++ [us[q1.toNat]], k'', rfl, ?_, ?_, ?_, ?_, ?_, by omega, by omega, ?_⟩
        · rw [upd_ne (Ne.symm nwf), upd_same, map_erase]
        · rw [upd_same, List.map_append]
          rfl
        · refine List.Perm.trans ?_ perm
          rw [List.append_assoc]
          exact List.Perm.append_left fs (perm_erase us q1.toNat hq)
        · rw [List.length_append, lenf]
          rfl
        · exact Src.mut S5 (But.mut b511 n5w) (Src.mut S5 b511 S11 n5w) n5f
        · exact But.mut (But.mut b511 n5w) n5f
      case hd =>
        rintro σ' H9 ⟨x7, us, fs, k', rfl, eu, ef, perm, lenf, S9, kl, kr, b9⟩
        refine ⟨_, rfl, lf, _, rfl, .inl ⟨.inl (.inl ef), fun p2 hp2 => ⟨Nat.le_trans (show 2 ≤ 1000 by decide) (by decide), fun p3 hp3 => ?_⟩⟩⟩
        have tk9 := tk_but S9.full b9 tk5
        have nd : fs.Nodup := (List.nodup_append.mp (perm.nodup_iff.mpr words1_nd)).1
        have ins : ∀ x ∈ fs, PyData.str x ∈ words1 := fun x hx => by
          have := perm.subset (List.mem_append_left us hx)
          rw [← words1_str]
          exact List.mem_map_of_mem this
        have back : (fs.map PyData.str).map strOf = fs := by
          rw [List.map_map]
          exact List.map_id' _
        have okw : (fs.map PyData.str).all wordB = true := List.all_eq_true.mpr fun d hd => by
          obtain ⟨x, hx, rfl⟩ := List.mem_map.mp hd
          exact List.all_eq_true.mp words1_ok _ (ins x hx)
        have okf : (fs.map PyData.str).all (okD 300 0) = true := List.all_eq_true.mpr fun d hd => by
          obtain ⟨x, hx, rfl⟩ := List.mem_map.mp hd
          exact List.all_eq_true.mp words1_two _ (ins x hx)
        have okt : okD 2200 1 (.tuple (fs.map PyData.str)) = true := tup_ok okf (by rw [List.length_map]; omega) (by decide)
        have s9 : Same H9 (upd (upd H9 p2 (.tup (fs.map V.str))) p3 (.tup [.str "choice", .ref p2])) := (Same.new hp2).trans (Same.new hp3)
        refine q _ (.tuple [.str "choice", .tuple (fs.map PyData.str)]) k' _ (tup_ok (W := 2200) (D := 1) ?_ (show 10 + 2 * (2200 + 2) ≤ 5000 by decide) (by decide)) ?_ (by omega) (by omega) ((b5.trans b9).trans (But.of_same s9)) (S9.same s9)
          (.tup (wo_upd ((tk9.same (Same.new hp2)).ne hp3)) (.cons (.str _) (.cons (.tup (wo_same (Same.new hp3) _ _ (wo_upd (tk9.ne hp2))) (strs_dts fs)) .nil)))
        · rw [List.all_cons, List.all_cons, okt]
          decide +kernel
        · show (if decide ((1 : Int) ≤ (fs.map PyData.str).length) && decide (((fs.map PyData.str).length : Int) ≤ 20) then ((fs.map PyData.str).all wordB && decide ((once ((fs.map PyData.str).map strOf)).length = (fs.map PyData.str).length)) else false) = true
          rw [back, once_nodup nd, okw, List.length_map, decide_eq_true (show (1 : Int) ≤ fs.length by omega), decide_eq_true (show (fs.length : Int) ≤ 20 by omega), decide_eq_true rfl]
          rfl
    rw [decide_eq_false w4]
    refine ⟨_, rfl, ?_⟩
    refine oneC (GvL.lst (ds := tups1) ?a3 (by decide) tk5 H5 _ (Same.refl H5) fun l6 vs6 H6 s6 e6 d6 => ?_)
    case a3 => unfold tups1; repeat' (first | with_reducible exact Gv.non | with_reducible exact Gv.bl | with_reducible exact Gv.int | with_reducible exact Gv.str | with_reducible exact Gv.emp | with_reducible exact Ga.nil | with_reducible refine Ga.cons ?_ ?_ | with_reducible refine Gv.tup ?_ (by decide) | with_reducible refine Gv.lst ?_ (by decide) | with_reducible refine Gv.neg ?_ | with_reducible refine Gv.sub ?_ ?_ | exact Gv.pow Gv.int Gv.int cp1018 | refine Gv.mulS (Gv.str) (Gv.int) (by decide) (by decide) (by decide))
    have S6 := S5.same s6
    have n6 : vs6.length = 2 := d6.length
    refine ⟨m, l6, vs6, k3, rfl, .inl (.inl (.inl e6)), by omega, by omega, S6, by omega, fun v k4 H7 hv kg kh b7 S7 => ?_⟩
    obtain ⟨d, hd, dd⟩ := Dts.mem d6 hv
    have good := List.all_eq_true.mp tups1_ok d hd
    rw [Bool.and_eq_true] at good
    exact q v d k4 H7 (okD_mono good.1 (by decide) (by decide)) good.2 (by omega) (by omega) ((b5.trans (But.of_same s6)).trans b7) S7 (Dt.butW S6.full b7 dd)
end
end K01

namespace K01
open PySem L2 Xg
/-! ### pieces of data -/
theorem fines_app : ∀ a b : List PyData, fines (a ++ b) = (fines a && fines b)
  | [], b => by simp [fines]
  | x :: a, b => by
    show (fine x && fines (a ++ b)) = ((fine x && fines a) && fines b)
    rw [fines_app a b, Bool.and_assoc]
theorem wss_app : ∀ a b : List PyData, wss (a ++ b) = wss a + wss b
  | [], b => by simp [wss]
  | x :: a, b => by
    show ws x + 2 + wss (a ++ b) = ws x + 2 + wss a + wss b
    rw [wss_app a b]
    omega
theorem deeps_app : ∀ a b : List PyData, deeps (a ++ b) = max (deeps a) (deeps b)
  | [], b => by simp [deeps]
  | x :: a, b => by
    show max (deep x) (deeps (a ++ b)) = max (max (deep x) (deeps a)) (deeps b)
    rw [deeps_app a b]
    omega
/-- what a list of data must keep to -/
structure Fit (W D : Nat) (ds : List PyData) : Prop where
  f : fines ds = true
  w : wss ds ≤ W
  d : deeps ds ≤ D
theorem Fit.app {W W' D : Nat} {a b : List PyData} (x : Fit W D a) (y : Fit W' D b) : Fit (W + W') D (a ++ b) :=
  ⟨by rw [fines_app, x.f, y.f]; rfl, by rw [wss_app]; have := x.w; have := y.w; omega, by rw [deeps_app]; have := x.d; have := y.d; omega⟩
theorem Fit.left {W D : Nat} {a b : List PyData} (x : Fit W D (a ++ b)) : Fit (W - wss b) D a := by
  have h1 := x.f
  have h2 := x.w
  have h3 := x.d
  rw [fines_app, Bool.and_eq_true] at h1
  rw [wss_app] at h2
  rw [deeps_app] at h3
  exact ⟨h1.1, by omega, by omega⟩
theorem Fit.right {W D : Nat} {a b : List PyData} (x : Fit W D (a ++ b)) : Fit (W - wss a) D b := by
  have h1 := x.f
  have h2 := x.w
  have h3 := x.d
  rw [fines_app, Bool.and_eq_true] at h1
  rw [wss_app] at h2
  rw [deeps_app] at h3
  exact ⟨h1.2, by omega, by omega⟩
theorem Fit.mono {W W' D D' : Nat} {a : List PyData} (x : Fit W D a) (h1 : W ≤ W') (h2 : D ≤ D') : Fit W' D' a := ⟨x.f, Nat.le_trans x.w h1, Nat.le_trans x.d h2⟩
theorem Fit.take {W D : Nat} {a : List PyData} (x : Fit W D a) (n : Nat) : Fit W D (a.take n) := (Fit.left (b := a.drop n) (by rw [List.take_append_drop]; exact x)).mono (Nat.sub_le _ _) (Nat.le_refl _)
theorem Fit.drop {W D : Nat} {a : List PyData} (x : Fit W D a) (n : Nat) : Fit W D (a.drop n) := (Fit.right (a := a.take n) (by rw [List.take_append_drop]; exact x)).mono (Nat.sub_le _ _) (Nat.le_refl _)
theorem Fit.cut {W D : Nat} {a : List PyData} (x : Fit W D a) (i j : Option Int) : Fit W D (cutD a i j) := (x.drop _).take _
theorem Fit.rev {W D : Nat} : ∀ {a : List PyData}, Fit W D a → Fit W D a.reverse := by
  intro a x
  have h : ∀ a : List PyData, fines a.reverse = fines a ∧ wss a.reverse = wss a ∧ deeps a.reverse = deeps a := by
    intro a
    induction a with
    | nil => exact ⟨rfl, rfl, rfl⟩
    | cons y a ih =>
      rw [List.reverse_cons, fines_app, wss_app, deeps_app, ih.1, ih.2.1, ih.2.2]
      refine ⟨?_, ?_, ?_⟩
      · show (fines a && (fine y && true)) = (fine y && fines a)
        rw [Bool.and_true, Bool.and_comm]
      · show wss a + (ws y + 2 + 0) = ws y + 2 + wss a
        omega
      · show max (deeps a) (max (deep y) 0) = max (deep y) (deeps a)
        omega
  obtain ⟨h1, h2, h3⟩ := h a
  exact ⟨by rw [h1]; exact x.f, by rw [h2]; exact x.w, by rw [h3]; exact x.d⟩
theorem Fit.one {W D : Nat} {d : PyData} (h : okD W D d = true) : Fit (W + 2) D [d] := by
  unfold okD at h
  simp only [Bool.and_eq_true, decide_eq_true_eq] at h
  exact ⟨by show (fine d && true) = true; rw [h.1]; rfl, by show ws d + 2 + 0 ≤ _; omega, by show max (deep d) 0 ≤ D; omega⟩
theorem Fit.tup {W D W' D' : Nat} {ds : List PyData} (x : Fit W D ds) (h1 : 10 + W ≤ W') (h2 : D + 1 ≤ D') : okD W' D' (.tuple ds) = true := by
  have := x.w
  have := x.d
  unfold okD
  rw [show fine (.tuple ds) = fines ds from rfl, show ws (.tuple ds) = 10 + wss ds from rfl, show deep (.tuple ds) = deeps ds + 1 from rfl, x.f, decide_eq_true (by omega), decide_eq_true (by omega)]
  rfl
theorem Fit.lst {W D W' D' : Nat} {ds : List PyData} (x : Fit W D ds) (h1 : 10 + W ≤ W') (h2 : D + 1 ≤ D') : okD W' D' (.list ds) = true := by
  have := x.w
  have := x.d
  unfold okD
  rw [show fine (.list ds) = fines ds from rfl, show ws (.list ds) = 10 + wss ds from rfl, show deep (.list ds) = deeps ds + 1 from rfl, x.f, decide_eq_true (by omega), decide_eq_true (by omega)]
  rfl
theorem sIx_none (n d : Nat) : HT.sIx n d none = d := rfl
theorem cut_to {ds : List PyData} {i : Int} (h : 0 ≤ i) : cutD ds none (some i) = ds.take i.toNat := by
  obtain ⟨n, rfl⟩ := Int.eq_ofNat_of_zero_le h
  unfold cutD
  rw [HT.sIx_nat, sIx_none, List.drop_zero, Nat.sub_zero, Int.toNat_natCast]
  by_cases z : n ≤ ds.length
  · rw [Nat.min_eq_left z]
  · rw [Nat.min_eq_right (by omega), List.take_of_length_le (Nat.le_refl _), List.take_of_length_le (by omega)]
theorem cut_from {ds : List PyData} {i : Int} (h : 0 ≤ i) : cutD ds (some i) none = ds.drop i.toNat := by
  obtain ⟨n, rfl⟩ := Int.eq_ofNat_of_zero_le h
  unfold cutD
  rw [HT.sIx_nat, sIx_none, Int.toNat_natCast]
  by_cases z : n ≤ ds.length
  · rw [Nat.min_eq_left z, List.take_of_length_le (by rw [List.length_drop]; exact Nat.le_refl _)]
  · rw [Nat.min_eq_right (by omega), Nat.sub_self, List.take_zero, List.drop_of_length_le (by omega)]
theorem cut_len {ds : List PyData} (i j : Option Int) : (cutD ds i j).length ≤ ds.length := by
  unfold cutD
  rw [List.length_take, List.length_drop]
  omega
theorem mid_is {ds : List PyData} {n : Nat} {d : PyData} (h : ds[n]? = some d) : ds.take n ++ ([d] ++ ds.drop (n + 1)) = ds := by
  induction ds generalizing n with
  | nil => simp at h
  | cons x ds ih =>
    cases n with
    | zero =>
      simp at h
      subst h
      rfl
    | succ n =>
      have := ih (n := n) (by simpa using h)
      show x :: (ds.take n ++ ([d] ++ ds.drop (n + 1))) = x :: ds
      rw [this]
section
variable {P : Program} {w : World} {K : PySem.W.Frag} {mg : Str → Option Value} {base : Heap} {c : Addr} {ns : List Int}
def sp_bent (n : Nat) : Sp := fun vs H Q _ => ∃ m x d k N, vs = [.ref m, x] ∧ Dt (wo N H) x d ∧ fine d = true ∧ ws d ≤ 40000 ∧ deep d < n ∧ Src K c ns H m k ∧ k + 4 * n ≤ 900000000 ∧ Tk N H ∧
  ∀ v d' k' H', okD (2 * ws d + 2000) (deep d + 2) d' = true → k ≤ k' → k' ≤ k + 4 * n → But m H H' → Src K c ns H' m k' → Dt (wo N H') v d' → Q v H'
theorem ok_bent (T : Tx K mg) (F : FunAt K mg "_law_bent" s__law_bent ["_law_m", "_law_thing"]) (D__law_of : Has P w K mg base "_law_of" 2 ["_law_m", "_law_items"] (sp_of (K := K) (c := c) (ns := ns)))
    (D__law_next : Has P w K mg base "_law_next" 1 ["_law_m", "_law_total"] (sp_next (K := K) (c := c) (ns := ns)))
    (D__law_odd : Has P w K mg base "_law_odd" 3 ["_law_m"] (sp_odd (K := K) (c := c) (ns := ns))) :
    ∀ n, Has P w K mg base "_law_bent" (4 + n) ["_law_m", "_law_thing"] (sp_bent (K := K) (c := c) (ns := ns) n)
  | 0 => by
    refine Has.mk' F sc__law_bent (fun vs H Q E h => ?_) (fun f cdv A outer s H vs Q E hr h => ?_)
    · obtain ⟨m, x, d, k, N, rfl, _⟩ := h
      rfl
    · obtain ⟨m, x, d, k, N, rfl, _, _, _, no, _⟩ := h
      exact absurd no (Nat.not_lt_zero _)
  | n + 1 => by
    have D__law_bent := ok_bent T F D__law_of D__law_next D__law_odd n
    refine Has.mk' F sc__law_bent (fun vs H Q E h => ?_) (fun f cdv A outer s H vs Q E hr h => ?_)
    · obtain ⟨m, x, d, k, N, rfl, _⟩ := h
      rfl
    obtain ⟨m, x, d, k, N, rfl, dt, fi, sm, dp, S, kb, tk, q⟩ := h
    have hu : (bodyCx P w K mg base N__law_bent "_law_bent" s__law_bent f cdv A outer s H E).A.units + 64 < cLine := hr.units
    have hr__law_bent := hr
    have hr__law_odd := hr.mono (show 3 ≤ 4 + n by omega)
    have hr__law_of := hr.mono (show 2 ≤ 4 + n by omega)
    have hr__law_next := hr.mono (show 1 ≤ 4 + n by omega)
    refine ⟨_, (pss_cons (ps_set (i := 2) sc__law_bent.nd rfl (Or.inl rfl) (pe_own D__law_next hr__law_next rfl (pa_cons (pv 0) (pa_cons pe_int pa_nil))))
      (pss_cons (ps_if (PW.pt (pw_or (pt_not (pt_val (pe_callB call_isD rfl T.z_isinstance B.isinstance (pa_cons (pv 1) (pa_cons (pe_ty rfl T.z_tuple B.tuple) pa_nil))))) (pw_or1 (pt_cmpR (opEqA (by exact hu)) (pv 2) pe_int (nomark _)))))
        (pss_one (ps_ret (pe_own D__law_odd hr__law_odd rfl (pa_cons (pv 0) pa_nil))))
        pss_nil)
      (Evl.pss_cut (ps_if (PW.pt (pw_and (pt_cmpR (opNeA (by exact hu)) (pv 1) (pe_tup pa_nil) (nomark _)) (pw_and1 (pt_cmpR opLtA (pv 2) pe_int (nomark _)))))
        (pss_cons (ps_set (i := 3) sc__law_bent.nd rfl (Or.inl rfl) (pe_own D__law_next hr__law_next rfl (pa_cons (pv 0) (pa_cons (pe_callB callLenA rfl T.z_len B.len (pa_cons (pv 1) pa_nil)) pa_nil))))
        (pss_one (ps_ret (pe_op opAddA (pe_op opAddA (pe_slice slAll (pv 1) po_none (po_some (pv 3))) (pe_tup (pa_cons (pe_own D__law_bent hr__law_bent rfl (pa_cons (pv 0) (pa_cons (pe_ix ix_seq (pv 1) (pv 3) (fun _ _ => rfl)) pa_nil))) pa_nil))) (pe_slice slAll (pv 1) (po_some (pe_op opAddA (pv 3) pe_int)) po_none)))))
        pss_nil)
      (pss_cons (ps_set (i := 3) sc__law_bent.nd rfl (Or.inl rfl) (pe_own D__law_next hr__law_next rfl (pa_cons (pv 0) (pa_cons (pe_op opAddA (pe_callB callLenA rfl T.z_len B.len (pa_cons (pv 1) pa_nil)) pe_int) pa_nil))))
      (pss_cons (ps_set (i := 4) sc__law_bent.nd rfl (Or.inl rfl) (pe_lstS (pa_cons (pe_op opAddA (pe_slice slAll (pv 1) po_none (po_some (pv 3))) (pe_slice slAll (pv 1) (po_some (pe_op opAddA (pv 3) pe_int)) po_none)) (pa_cons (pe_op opAddA (pe_op opAddA (pe_slice slAll (pv 1) po_none (po_some (pv 3))) (pe_slice slAll (pv 1) (po_some (pv 3)) (po_some (pe_op opAddA (pv 3) pe_int)))) (pe_slice slAll (pv 1) (po_some (pv 3)) po_none)) (pa_cons (pe_revT (pv 1)) (pa_cons (pe_callTy call_listS rfl T.z_list B.list (pa_cons (pv 1) pa_nil)) pa_nil))))))
      (pss_one (ps_ret (pe_own D__law_of hr__law_of rfl (pa_cons (pv 0) (pa_cons (pe_op opAddA (pv 4) (pe_lstS (pa_cons (pe_op opAddA (pe_op opAddA (pe_slice slAll (pv 1) po_none (po_some (pv 3))) (pe_tup (pa_cons (pe_own D__law_odd hr__law_odd rfl (pa_cons (pv 0) pa_nil)) pa_nil))) (pe_slice slAll (pv 1) (po_some (pv 3)) po_none)) (pa_cons (pe_op opAddA (pv 1) (pv 1)) pa_nil)))) pa_nil)))))))))), ?_⟩
    refine ⟨_, rfl, m, 8, k, rfl, by decide, by decide, S, by omega, fun way k1 H1 w0 w8 ka kb1 b1 S1 => ?_⟩
    have dt1 := Dt.butW S.full b1 dt
    have tk1 := tk_but S1.full b1 tk
    refine ⟨x, rfl, x, "tuple", d, rfl, by simp, Dt.same wo_of dt1, _, rfl, ?_⟩
    have odd : ∀ v d' k' H', okD 400 1 d' = true → k1 ≤ k' → k' ≤ k1 + 1 → But m H1 H' → Src K c ns H' m k' → Dt (wo N H') v d' → Q v H' := fun v d' k' H' ok h1 h2 b S' dd =>
      q v d' k' H' (okD_mono ok (by omega) (by omega)) (by omega) (by omega) (b1.trans b) S' dd
    cases dt1 with
    | @tup a xs ds e r =>
      have ws_d : ws (.tuple ds) = 10 + wss ds := rfl
      have deep_d : deep (.tuple ds) = deeps ds + 1 := rfl
      have fit : Fit (wss ds) (deeps ds) ds := ⟨fi, Nat.le_refl _, Nat.le_refl _⟩
      have el := r.length
      have an : a ≠ N := (wo_some e).1
      replace e : H1 a = some (.tup xs) := (wo_some e).2
      have few := ws_len ds
      refine ⟨_, rfl, .inl ⟨rfl, _, rfl, ?_⟩⟩
      rw [eqI]
      by_cases w7 : way = 7
      · rw [decide_eq_true w7]
        exact ⟨_, rfl, m, k1, N, rfl, S1, by omega, tk1, odd⟩
      rw [decide_eq_false w7]
      refine ⟨fun σ' H' => σ' = [some (V.ref m), some (.ref a), some (.int way), none, none] ∧ Same H1 H', ?_, ?_⟩
      · refine ⟨_, rfl, Nat.zero_le _, fun p hp => .inr (.inr (.inl ⟨a, p, xs, rfl, rfl, .inl (.inl ((Same.new hp) _ _ e)), .inl (.inl upd_same), ?_⟩))⟩
        have s2 : Same H1 (upd H1 p (.tup [])) := Same.new hp
        have r2 := Dts.same (wo_same s2) r
        have e2 := s2 _ _ e
        have S2 := S1.same s2
        have tk2 := tk1.same s2
        generalize upd H1 p (.tup []) = H2 at s2 r2 e2 S2 tk2
        refine ⟨_, rfl, ?_⟩
        cases hx : xs.isEmpty with
        | true => exact ⟨rfl, s2⟩
        | false =>
          have pos : 0 < xs.length := by
            cases xs with
            | nil => cases hx
            | cons _ _ => exact Nat.succ_pos _
          refine ⟨_, rfl, .inl ⟨_, _, rfl, rfl, _, rfl, ?_⟩⟩
          by_cases w5 : way < 5
          · rw [decide_eq_true w5]
            refine itT (seqN (ownA (varC rfl (oneC ?_))))
            refine ⟨_, rfl, .inl ⟨a, xs, rfl, .inr (.inl (.inl e2)), m, _, k1, rfl, by omega, by omega, S2, by omega, fun i k2 H3 i0 i1 kc kd b3 S3 => ?_⟩⟩
            have am : a ≠ m := fun z => by
              obtain ⟨_, _, q⟩ := S2.full
              rw [z, q] at e2
              cases e2
            have e3 : H3 a = some (.tup xs) := b3 _ _ am e2
            have r3 : Dts (wo N H3) xs ds := Dts.butW S2.full b3 r2
            have hi : i.toNat < xs.length := by omega
            have hy : atI xs i = some xs[i.toNat] := by
              unfold atI ixN
              rw [if_pos i0, if_pos i1]
              exact List.getElem?_eq_getElem hi
            have tk3 := tk_but S3.full b3 tk2
            refine retN ?_
            refine Gv.sl (K := K) (xs := ds) (.var rfl (.tup (by rw [wo_ne an]; exact e3) r3)) .none (.some (.var rfl (.int i))) tk3 H3 _ (Same.refl H3) fun v4 H4 s4 d4 => ?_
            have e4 := s4 _ _ e3
            have r4 := Dts.same (wo_same s4) r3
            have S4 := S3.same s4
            obtain ⟨d, hd, dd⟩ := Dts.get r4 (List.getElem?_eq_getElem hi)
            generalize xs[i.toNat] = y at hy dd
            have mid := mid_is hd
            have ew : wss ds = wss (ds.take i.toNat) + (ws d + 2 + 0 + wss (ds.drop (i.toNat + 1))) := by
              conv => lhs; rw [← mid]
              rw [wss_app, wss_app]
              rfl
            have fm : Fit (wss ds) (deeps ds) (ds.take i.toNat ++ ([d] ++ ds.drop (i.toNat + 1))) := by rw [mid]; exact fit
            have fd : Fit (wss ds) (deeps ds) [d] := (fm.right.left).mono (by omega) (Nat.le_refl _)
            have fine_d : fine d = true := by
              have := fd.f
              rw [show fines [d] = (fine d && true) from rfl, Bool.and_true] at this
              exact this
            have deep_e : deep d ≤ deeps ds := by
              have := fd.d
              rw [show deeps [d] = max (deep d) 0 from rfl] at this
              omega
            refine ⟨_, rfl, _, rfl, _, rfl, .inr (.inl ⟨a, xs, i, y, rfl, rfl, .inl (.inl e4), hy, m, y, d, k2, N, rfl, dd, fine_d, by omega, by omega, S4, by omega, tk3.same s4, fun v5 d5 k3 H5 ok5 h1 h2 b5 S5 dd5 => ?_⟩)⟩
            refine ⟨Nat.le_trans (show 1 ≤ 1000 by decide) (by decide), fun p hp => ?_⟩
            have tk5 := tk_but S5.full b5 (tk3.same s4)
            have tk6 : Tk N (upd H5 p (.tup [v5])) := tk5.same (Same.new hp)
            have d4' := Dt.same (wo_same (Same.new (o := .tup [v5]) hp)) (Dt.butW S4.full b5 d4)
            have l1 := cut_len (ds := ds) none (some i)
            have l2 := cut_len (ds := ds) (some (i + 1)) none
            refine cat_val (xs := cutD ds none (some i)) (ys := [d5]) tk6 d4' (.tup (wo_upd (tk5.ne hp)) (.cons (Dt.same (wo_same (Same.new hp)) dd5) .nil)) (Nat.le_trans (show _ + 1 ≤ 50000 by omega) (by decide)) fun v6 H7 s7 d7 => ?_
            have e7 : H7 a = some (.tup xs) := s7 _ _ (Same.new hp _ _ (b5 _ _ am e4))
            have r7 : Dts (wo N H7) xs ds := Dts.same (wo_same s7) (Dts.same (wo_same (Same.new hp)) (Dts.butW S4.full b5 r4))
            refine Gv.sl (K := K) (xs := ds) (.var rfl (.tup (by rw [wo_ne an]; exact e7) r7)) (.some (.add (K := K) (.var rfl (.int i)) .int)) .none (tk6.same s7) H7 _ (Same.refl H7) fun v8 H8 s8 d8 => ?_
            refine cat_val ((tk6.same s7).same s8) (Dt.same (wo_same s8) d7) d8 (Nat.le_trans (show _ ≤ 100000 by rw [List.length_append, List.length_singleton]; omega) (by decide)) fun v9 H9 s9 d9 => ?_
            refine q v9 _ k3 H9 ?_ (by omega) (by omega) ((((((b1.trans (But.of_same s2)).trans b3).trans (But.of_same s4)).trans b5).trans (But.of_same (Same.new hp))).trans (But.of_same ((s7.trans s8).trans s9))) ((((S5.same (Same.new hp)).same s7).same s8).same s9) d9
            rw [cut_to i0, cut_from (show 0 ≤ i + 1 by omega), show (i + 1).toNat = i.toNat + 1 by omega]
            have f1 : Fit (wss (ds.take i.toNat)) (deeps ds + 2) (ds.take i.toNat) := ⟨(fit.take _).f, Nat.le_refl _, Nat.le_trans (fit.take _).d (Nat.le_add_right _ _)⟩
            have f2 : Fit (wss (ds.drop (i.toNat + 1))) (deeps ds + 2) (ds.drop (i.toNat + 1)) := ⟨(fit.drop _).f, Nat.le_refl _, Nat.le_trans (fit.drop _).d (Nat.le_add_right _ _)⟩
            have f3 : Fit (2 * ws d + 2000 + 2) (deeps ds + 2) [d5] := (Fit.one ok5).mono (Nat.le_refl _) (by omega)
            exact Fit.tup ((f1.app f3).app f2) (by omega) (by omega)
          · rw [decide_eq_false w5]
            exact ⟨rfl, s2⟩
      · rintro σ' H2 ⟨rfl, s2⟩
        have r2 := Dts.same (wo_same s2) r
        have e2 := s2 _ _ e
        have S2 := S1.same s2
        have am : a ≠ m := fun z => by
          obtain ⟨_, _, q⟩ := S2.full
          rw [z, q] at e2
          cases e2
        refine seqN (ownA (varC rfl (oneC ?_)))
        refine ⟨_, rfl, .inl ⟨a, xs, rfl, .inr (.inl (.inl e2)), .inl ⟨_, _, rfl, rfl, m, _, k1, rfl, by omega, by omega, S2, by omega, fun i k2 H3 i0 i1 kc kd b3 S3 => ?_⟩⟩⟩
        have e3 : H3 a = some (.tup xs) := b3 _ _ am e2
        have r3 : Dts (wo N H3) xs ds := Dts.butW S2.full b3 r2
        have tk3 := tk_but S3.full b3 (tk1.same s2)
        have t3 : Dt (wo N H3) (.ref a) (.tuple ds) := .tup (by rw [wo_ne an]; exact e3) r3
        have l1 := cut_len (ds := ds) none (some i)
        have l2 := cut_len (ds := ds) (some (i + 1)) none
        have l3 := cut_len (ds := ds) (some i) (some (i + 1))
        have l4 := cut_len (ds := ds) (some i) none
        refine seqN (GvL.lst (ds := [.tuple (cutD ds none (some i) ++ cutD ds (some (i + 1)) none), .tuple ((cutD ds none (some i) ++ cutD ds (some i) (some (i + 1))) ++ cutD ds (some i) none), .tuple ds.reverse, .list ds])
          ?b4 (Nat.le_trans (show 4 ≤ 1000 by decide) (by decide)) tk3 H3 _ (Same.refl H3) fun l4 vs4 H4 s4 e4 d4 => ?_)
        case b4 =>
          refine .cons (.catT (.sl (.var rfl t3) .none (.some (.var rfl (.int i)))) (.sl (.var rfl t3) (.some (.add (.var rfl (.int i)) .int)) .none) (Nat.le_trans (show _ ≤ 100000 by omega) (by decide))) ?_
          refine .cons (.catT (.catT (.sl (.var rfl t3) .none (.some (.var rfl (.int i)))) (.sl (.var rfl t3) (.some (.var rfl (.int i))) (.some (.add (.var rfl (.int i)) .int))) (Nat.le_trans (show _ ≤ 100000 by omega) (by decide)))
            (.sl (.var rfl t3) (.some (.var rfl (.int i))) .none) (Nat.le_trans (show _ ≤ 100000 by rw [List.length_append]; omega) (by decide))) ?_
          exact .cons (.rev (.var rfl t3)) (.cons (.listOf (.var rfl t3)) .nil)
        have S4 := S3.same s4
        have t4 := Dt.same (wo_same s4) t3
        have tk4 := tk3.same s4
        refine retN (ownA (varC rfl (oneC (opI ⟨_, rfl, ?_⟩))))
        refine lstI (headC (opI (opI (Gv.sl (K := K) (xs := ds) (.var rfl t4) .none (.some (.var rfl (.int i))) tk4 H4 _ (Same.refl H4) fun v5 H5 s5 d5 => ?_))))
        have S5 := S4.same s5
        have t5 := Dt.same (wo_same s5) t4
        have tk5 := tk4.same s5
        refine ⟨_, rfl, m, k2, N, rfl, S5, by omega, tk5, fun v6 d6 k3 H6 ok6 h1 h2 b6 S6 dd6 => ⟨Nat.le_trans (show 1 ≤ 1000 by decide) (by decide), fun p hp => ?_⟩⟩
        have tk6' := tk_but S6.full b6 tk5
        have tk6 : Tk N (upd H6 p (.tup [v6])) := tk6'.same (Same.new hp)
        have t6 := Dt.same (wo_same (Same.new (o := .tup [v6]) hp)) (Dt.butW S5.full b6 t5)
        have d5' := Dt.same (wo_same (Same.new (o := .tup [v6]) hp)) (Dt.butW S5.full b6 d5)
        refine cat_val (xs := cutD ds none (some i)) (ys := [d6]) tk6 d5' (.tup (wo_upd (tk6'.ne hp)) (.cons (Dt.same (wo_same (Same.new hp)) dd6) .nil)) (Nat.le_trans (show _ + 1 ≤ 50000 by omega) (by decide)) fun v7 H7 s7 d7 => ?_
        have t7 := Dt.same (wo_same s7) t6
        have tk7 := tk6.same s7
        refine Gv.sl (K := K) (xs := ds) (.var rfl t7) (.some (.var rfl (.int i))) .none tk7 H7 _ (Same.refl H7) fun v8 H8 s8 d8 => ?_
        refine cat_val (tk7.same s8) (Dt.same (wo_same s8) d7) d8 (Nat.le_trans (show _ ≤ 100000 by rw [List.length_append, List.length_singleton]; omega) (by decide)) fun v9 H9 s9 d9 => ?_
        have t9 := Dt.same (wo_same s9) (Dt.same (wo_same s8) t7)
        have tk9 := (tk7.same s8).same s9
        refine headC (Gv.catT (K := K) (.var rfl t9) (.var rfl t9) (Nat.le_trans (show _ ≤ 100000 by omega) (by decide)) tk9 H9 _ (Same.refl H9) fun v10 H10 s10 d10 => ⟨Nat.le_trans (show 2 ≤ 1000 by decide) (by decide), fun p11 hp11 _ => ?_⟩)
        have S10 : Src K c ns H10 m k3 := ((((S6.same (Same.new hp)).same s7).same s8).same s9).same s10
        have lm : l4 ≠ m := ne_full S4.full e4
        have s6 : Same H6 H10 := ((((Same.new hp).trans s7).trans s8).trans s9).trans s10
        have e10 : H10 l4 = some (.lst vs4) := s6 _ _ (b6 _ _ lm (s5 _ _ e4))
        have d4' : Dts (wo N H10) vs4 _ := Dts.same (wo_same s6) (Dts.butW S5.full b6 (Dts.same (wo_same s5) d4))
        have n4 : vs4.length = 4 := d4.length
        refine .inr (.inr (.inl ⟨l4, p11, vs4, [v9, v10], rfl, rfl, Same.new hp11 _ _ e10, upd_same, by rw [n4]; exact Nat.le_trans (show 6 ≤ 1000 by decide) (by decide), fun p12 hp12 => ?_⟩))
        have s12 : Same H10 (upd (upd H10 p11 (.lst [v9, v10])) p12 (.lst (vs4 ++ [v9, v10]))) := (Same.new hp11).trans (Same.new hp12)
        have all := Dts.same (wo_same s12) (Dts.append d4' (.cons (Dt.same (wo_same s10) d9) (.cons d10 .nil)))
        have S12 := S10.same s12
        have b12 : But m H (upd (upd H10 p11 (.lst [v9, v10])) p12 (.lst (vs4 ++ [v9, v10]))) := (((((b1.trans (But.of_same s2)).trans b3).trans (But.of_same s4)).trans (But.of_same s5)).trans b6).trans (But.of_same (s6.trans s12))
        have here : upd (upd H10 p11 (.lst [v9, v10])) p12 (.lst (vs4 ++ [v9, v10])) p12 = some (.lst (vs4 ++ [v9, v10])) := upd_same
        generalize upd (upd H10 p11 (.lst [v9, v10])) p12 (.lst (vs4 ++ [v9, v10])) = H12 at all S12 b12 here
        refine ⟨m, p12, vs4 ++ [v9, v10], k3, rfl, .inl (.inl (.inl here)), by rw [List.length_append, n4]; exact Nat.succ_pos _, by rw [List.length_append, n4]; exact (show 6 ≤ 1000 by decide), S12, by omega, fun v k' H13 hv h3 h4 b13 S13 => ?_⟩
        obtain ⟨d, hd, dd⟩ := Dts.mem all hv
        refine q v d k' H13 ?_ (by omega) (by omega) (b12.trans b13) S13 (Dt.butW S12.full b13 dd)
        have both : ds.take i.toNat ++ ds.drop i.toNat = ds := List.take_append_drop _ _
        have ew : wss ds = wss (ds.take i.toNat) + wss (ds.drop i.toNat) := by
          conv => lhs; rw [← both]
          rw [wss_app]
        have f1 : Fit (wss (ds.take i.toNat)) (deeps ds + 2) (ds.take i.toNat) := ⟨(fit.take _).f, Nat.le_refl _, Nat.le_trans (fit.take _).d (Nat.le_add_right _ _)⟩
        have f2 : Fit (wss (ds.drop i.toNat)) (deeps ds + 2) (ds.drop i.toNat) := ⟨(fit.drop _).f, Nat.le_refl _, Nat.le_trans (fit.drop _).d (Nat.le_add_right _ _)⟩
        have f0 : Fit (wss ds) (deeps ds + 2) ds := fit.mono (Nat.le_refl _) (Nat.le_add_right _ _)
        have f6 : Fit 402 (deeps ds + 2) [d6] := (Fit.one ok6).mono (Nat.le_refl _) (by omega)
        rw [cut_to i0, cut_from i0] at hd
        simp only [List.mem_append, List.mem_cons, List.not_mem_nil, or_false] at hd
        rcases hd with (rfl | rfl | rfl | rfl) | rfl | rfl
        · exact Fit.tup (f1.app (f0.cut (some (i + 1)) none)) (by omega) (by omega)
        · exact Fit.tup ((f1.app (f0.cut (some i) (some (i + 1)))).app f2) (by omega) (by omega)
        · exact Fit.tup f0.rev (by omega) (by omega)
        · exact Fit.lst f0 (by omega) (by omega)
        · exact Fit.tup ((f1.app f6).app f2) (by omega) (by omega)
        · exact Fit.tup (f0.app f0) (by omega) (by omega)
    | _ => exact ⟨_, rfl, m, k1, N, rfl, S1, by omega, tk1, odd⟩
end
end K01

namespace K01
open PySem L2 Xg
abbrev most : Int := (10 : Int) ^ (18 : Int).toNat - 1
def wd (i : Nat) : Str := times "w" (1 + i)
def dw : List PyData := (List.range 20).map fun i => .str (wd i)
def good1 : List PyData := [.tuple [.str "int", .int (0 - most), .int most], .tuple [.str "int", .int 5, .int 5], .tuple [.str "decimal", .int (0 - most), .int most, .int 9], .tuple [.str "decimal", .int 0, .int 0, .int 1], .tuple [.str "text", .int 1]]
def good2 : List PyData := [.tuple [.str "text", .int 1000], .tuple [.str "choice", .tuple dw], .tuple [.str "choice", .tuple [.str "\n"]], .tuple [.str "truth"], .tuple [.str "date"]]
def bad1 : List PyData := [.tuple [.str "int", .int (0 - most - 1), .int 0], .tuple [.str "int", .int 0, .int (most + 1)], .tuple [.str "int", .int 6, .int 5], .tuple [.str "decimal", .int 0, .int 1, .int 0], .tuple [.str "decimal", .int 0, .int 1, .int 10]]
def bad2 : List PyData := [.tuple [.str "text", .int 0], .tuple [.str "text", .int 1001], .tuple [.str "choice", .tuple []], .tuple [.str "choice", .tuple (dw ++ [.str "x"])], .tuple [.str "choice", .tuple [.str "a", .str "a"]]]
def bad3 : List PyData := [.tuple [.str "choice", .tuple [.str (times "a" 21)]], .tuple [.str "choice", .tuple [.str ""]], .tuple [.str "choice", .tuple [.str "\t"]], .tuple [.str "truth", .bool true], .tuple [.str "date", .int 1]]
def bad4 : List PyData := [.tuple [.str "int", .bool true, .int 5], .tuple [.str "int", .int 0, .int 1, .int 2], .tuple [.str "decimal", .int 0, .int 1], .tuple [.str "decimal", .int 1, .int 0, .int 2], .tuple [.str "text"], .tuple [.str "truth", .tuple []]]
def goods : List PyData := good1 ++ good2
def bads : List PyData := ((bad1 ++ bad2) ++ bad3) ++ bad4
theorem all_heard : (goods ++ bads).map kindB = List.replicate 10 true ++ List.replicate 21 false := by decide +kernel
theorem all_small : (goods ++ bads).all (fun d => decide (ws d ≤ 100000)) = true := by decide +kernel
theorem map_dts {H : Hp} (f : Nat → Str) : ∀ l : List Nat, Dts H (l.map fun i => V.str (f i)) (l.map fun i => PyData.str (f i))
  | [] => .nil
  | i :: l => .cons (.str (f i)) (map_dts f l)
def heard : List Bool := List.replicate 10 true ++ List.replicate 21 false
theorem heard_small : (PyData.list (heard.map .bool)).shown.length ≤ sizeLine := by decide +kernel
theorem range_getD {β : Type} (l : List PyData) (f : PyData → β) (z : PyData) : (List.range l.length).map (fun i => f (l.getD i z)) = l.map f := by
  apply List.ext_getElem?
  intro i
  by_cases h : i < l.length
  · rw [List.getElem?_map, List.getElem?_range h, List.getElem?_map, List.getElem?_eq_getElem h]
    show some (f (l.getD i z)) = some (f l[i])
    rw [List.getD_eq_getElem?_getD, List.getElem?_eq_getElem h]
    rfl
  · rw [List.getElem?_eq_none (by rw [List.length_map, List.length_range]; omega), List.getElem?_eq_none (by rw [List.length_map]; omega)]
section
variable {P : Program} {w : World} {K : PySem.W.Frag} {mg : Str → Option Value} {base : Heap} {c : Addr} {ns : List Int}
def sp_right : Sp := fun vs H Q _ => vs = [] ∧ (∃ N, Tk N H) ∧ ∀ H', Same H H' → Q (.bl true) H'
theorem ok_right (T : Tx K mg) (F : FunAt K mg "_law_bounds_right" s__law_bounds_right []) (D_is_kind : Has P w K mg base "is_kind" 5 ["value"] sp_is_kind) :
    HasG P w K mg base "_law_bounds_right" 6 [] sp_right := by
  refine HasG.mk' F sc__law_bounds_right (fun vs H Q E h => ?_) (fun f cdv A outer s H vs Q E gd hr h => ?_)
  · obtain ⟨rfl, _⟩ := h
    rfl
  obtain ⟨rfl, ⟨N, tk⟩, q⟩ := h
  have hu : (bodyCx P w K mg base N__law_bounds_right "_law_bounds_right" s__law_bounds_right f cdv A outer s H E).A.units + 64 < cLine := hr.units
  have hr_is_kind := hr
  refine ⟨_, (pss_cons (ps_par (i := 0) (j := 1) rfl sc__law_bounds_right.nd rfl rfl (by decide) rfl rfl (pa_cons (pe_op op_sub (pe_op op_pow pe_int pe_int) pe_int) (pa_cons (pe_callTy call_tuple_of rfl T.z_tuple B.tuple (pa_cons (pe_lc (own := [("_law_k", 6)]) (g := gName 6) (tt := tYes) rfl sc__law_bounds_right.nd (pi_range1 rfl T.z_range (pa_cons pe_int pa_nil)) (blkOk_by (N := N__law_bounds_right) (sc := defScope s__law_bounds_right) (by decide +kernel)) (fun _ _ _ _ _ => pg_name (i := 6) sc__law_bounds_right.nd rfl (Or.inl rfl)) (fun _ _ _ _ _ => pts_nil) (fun _ _ _ _ _ => (pe_op opMulA pe_str (pe_op (opAddB (K := K) (by rfl)) pe_int (pv 6))))) pa_nil)) pa_nil)) rfl)
      (pss_cons (ps_set (i := 2) sc__law_bounds_right.nd rfl (Or.inl rfl) (pe_lstS (pa_cons (pe_tup (pa_cons pe_str (pa_cons (pe_op op_sub pe_int (pv 0)) (pa_cons (pv 0) pa_nil)))) (pa_cons (pe_tup (pa_cons pe_str (pa_cons pe_int (pa_cons pe_int pa_nil)))) (pa_cons (pe_tup (pa_cons pe_str (pa_cons (pe_op op_sub pe_int (pv 0)) (pa_cons (pv 0) (pa_cons pe_int pa_nil))))) (pa_cons (pe_tup (pa_cons pe_str (pa_cons pe_int (pa_cons pe_int (pa_cons pe_int pa_nil))))) (pa_cons (pe_tup (pa_cons pe_str (pa_cons pe_int pa_nil))) pa_nil)))))))
      (pss_cons (ps_set (i := 2) sc__law_bounds_right.nd rfl (Or.inl rfl) (pe_op opAddA (pv 2) (pe_lstS (pa_cons (pe_tup (pa_cons pe_str (pa_cons pe_int pa_nil))) (pa_cons (pe_tup (pa_cons pe_str (pa_cons (pv 1) pa_nil))) (pa_cons (pe_tup (pa_cons pe_str (pa_cons (pe_tup (pa_cons pe_str pa_nil)) pa_nil))) (pa_cons (pe_tup (pa_cons pe_str pa_nil)) (pa_cons (pe_tup (pa_cons pe_str pa_nil)) pa_nil))))))))
      (pss_cons (ps_set (i := 3) sc__law_bounds_right.nd rfl (Or.inl rfl) (pe_lstS (pa_cons (pe_tup (pa_cons pe_str (pa_cons (pe_op op_sub (pe_op op_sub pe_int (pv 0)) pe_int) (pa_cons pe_int pa_nil)))) (pa_cons (pe_tup (pa_cons pe_str (pa_cons pe_int (pa_cons (pe_op opAddA (pv 0) pe_int) pa_nil)))) (pa_cons (pe_tup (pa_cons pe_str (pa_cons pe_int (pa_cons pe_int pa_nil)))) (pa_cons (pe_tup (pa_cons pe_str (pa_cons pe_int (pa_cons pe_int (pa_cons pe_int pa_nil))))) (pa_cons (pe_tup (pa_cons pe_str (pa_cons pe_int (pa_cons pe_int (pa_cons pe_int pa_nil))))) pa_nil)))))))
      (pss_cons (ps_set (i := 3) sc__law_bounds_right.nd rfl (Or.inl rfl) (pe_op opAddA (pv 3) (pe_lstS (pa_cons (pe_tup (pa_cons pe_str (pa_cons pe_int pa_nil))) (pa_cons (pe_tup (pa_cons pe_str (pa_cons pe_int pa_nil))) (pa_cons (pe_tup (pa_cons pe_str (pa_cons (pe_tup pa_nil) pa_nil))) (pa_cons (pe_tup (pa_cons pe_str (pa_cons (pe_op opAddA (pv 1) (pe_tup (pa_cons pe_str pa_nil))) pa_nil))) (pa_cons (pe_tup (pa_cons pe_str (pa_cons (pe_tup (pa_cons pe_str (pa_cons pe_str pa_nil))) pa_nil))) pa_nil))))))))
      (pss_cons (ps_set (i := 3) sc__law_bounds_right.nd rfl (Or.inl rfl) (pe_op opAddA (pv 3) (pe_lstS (pa_cons (pe_tup (pa_cons pe_str (pa_cons (pe_tup (pa_cons (pe_op opMulA pe_str pe_int) pa_nil)) pa_nil))) (pa_cons (pe_tup (pa_cons pe_str (pa_cons (pe_tup (pa_cons pe_str pa_nil)) pa_nil))) (pa_cons (pe_tup (pa_cons pe_str (pa_cons (pe_tup (pa_cons pe_str pa_nil)) pa_nil))) (pa_cons (pe_tup (pa_cons pe_str (pa_cons pe_bl pa_nil))) (pa_cons (pe_tup (pa_cons pe_str (pa_cons pe_int pa_nil))) pa_nil))))))))
      (pss_cons (ps_set (i := 3) sc__law_bounds_right.nd rfl (Or.inl rfl) (pe_op opAddA (pv 3) (pe_lstS (pa_cons (pe_tup (pa_cons pe_str (pa_cons pe_bl (pa_cons pe_int pa_nil)))) (pa_cons (pe_tup (pa_cons pe_str (pa_cons pe_int (pa_cons pe_int (pa_cons pe_int pa_nil))))) (pa_cons (pe_tup (pa_cons pe_str (pa_cons pe_int (pa_cons pe_int pa_nil)))) (pa_cons (pe_tup (pa_cons pe_str (pa_cons pe_int (pa_cons pe_int (pa_cons pe_int pa_nil))))) (pa_cons (pe_tup (pa_cons pe_str pa_nil)) (pa_cons (pe_tup (pa_cons pe_str (pa_cons (pe_tup pa_nil) pa_nil))) pa_nil)))))))))
      (pss_cons (ps_setLc (i := 4) (own := [("_law_one", 5)]) (g := gName 5) (tt := tYes) rfl sc__law_bounds_right.nd rfl rfl (sw_true rfl rfl rfl (by decide +kernel)) (pi_list (pe_op opAddA (pv 2) (pv 3))) (blkOk_by (N := N__law_bounds_right) (sc := defScope s__law_bounds_right) (by decide +kernel)) (fun _ _ _ _ _ => pg_name (i := 5) sc__law_bounds_right.nd rfl (Or.inl rfl)) (fun _ _ _ _ _ => pts_nil) (fun _ _ _ _ _ => (pe_own D_is_kind hr_is_kind rfl (pa_cons (pv 5) pa_nil))))
      (pss_one (ps_ret (pe_cmpR (opEqA (by exact hu)) (pe_callB (callReprA (by exact gd) (by exact hu)) rfl T.z_repr B.repr (pa_cons (pv 4) pa_nil)) (pe_callB (callReprA (by exact gd) (by exact hu)) rfl T.z_repr B.repr (pa_cons (pe_op opAddA (pe_op opMulA (pe_lstS (pa_cons pe_bl pa_nil)) (pe_callB callLenA rfl T.z_len B.len (pa_cons (pv 2) pa_nil))) (pe_op opMulA (pe_lstS (pa_cons pe_bl pa_nil)) (pe_callB callLenA rfl T.z_len B.len (pa_cons (pv 3) pa_nil)))) pa_nil)) (nomark _)))))))))))), ?_⟩
  refine seqP (headC ⟨10, 18, rfl, rfl, cp1018, _, 1, rfl, rfl, ?_⟩)
  refine ⟨20, rfl, by decide, by decide, fun D hD => ?_⟩
  refine lc_pure (j := 6) (walk_range (lo := 0) (n := 20)) rfl (fun i => .str (wd i)) (by decide) hD (fun _ _ => trivial) (fun i x H1 H2 hi s1 y => ?_) (fun H1 s1 hL => ?_)
  · obtain ⟨rfl, rfl⟩ := y
    refine ⟨rfl, fun Q' q' => ?_⟩
    refine ⟨_, rfl, .inl ⟨1, _, rfl, rfl, .inr (.inl ⟨"w", 1 + i, rfl, congrArg V.int (by omega), ?_, by omega, by decide, q' _ (Same.refl _)⟩)⟩⟩
    rw [show ("w" : Str).length = 1 from rfl]
    omega
  refine ⟨D, _, rfl, .inl ⟨.inl (.inl hL), fun lw hlw => ⟨_, _, rfl, ?_⟩⟩⟩
  have s2 : Same H (upd H1 lw (.tup ((List.range 20).map fun i => .str (wd i)))) := s1.trans (Same.new hlw)
  have tw : Dt (wo N (upd H1 lw (.tup ((List.range 20).map fun i => .str (wd i))))) (.ref lw) (.tuple dw) := .tup (wo_upd ((tk.same s1).ne hlw)) (map_dts wd _)
  generalize upd H1 lw (.tup ((List.range 20).map fun i => .str (wd i))) = H2 at s2 tw
  have tk2 := tk.same s2
  refine seqN (GvL.lst (ds := good1) ?a1 (by decide) tk2 H2 _ (Same.refl H2) fun l3 vs3 H3 s3 e3 d3 => ?_)
  case a1 => unfold good1; repeat' (first | with_reducible exact Gv.non | with_reducible exact Gv.bl | with_reducible exact Gv.int | with_reducible exact Gv.str | with_reducible exact Ga.nil | exact Gv.var rfl (.int _) | exact Gv.var rfl (by assumption) | with_reducible refine Ga.cons ?_ ?_ | with_reducible refine Gv.tup ?_ (by decide) | with_reducible refine Gv.lst ?_ (by decide) | with_reducible refine Gv.sub ?_ ?_ | with_reducible refine Gv.add ?_ ?_ | with_reducible refine Gv.catT ?_ ?_ (by decide) | refine Gv.mulS (Gv.str) (Gv.int) (by decide) (by decide) (by decide))
  have tk3 := tk2.same s3
  have tw3 := Dt.same (wo_same s3) tw
  refine seqN (GvL.cat (xs := good1) (ys := good2) (GvL.var rfl e3 d3) (GvL.lst ?a2 (by decide)) (by decide) tk3 H3 _ (Same.refl H3) fun l4 vs4 H4 s4 e4 d4 => ?_)
  case a2 => unfold good2; repeat' (first | with_reducible exact Gv.non | with_reducible exact Gv.bl | with_reducible exact Gv.int | with_reducible exact Gv.str | with_reducible exact Ga.nil | exact Gv.var rfl (.int _) | exact Gv.var rfl (by assumption) | with_reducible refine Ga.cons ?_ ?_ | with_reducible refine Gv.tup ?_ (by decide) | with_reducible refine Gv.lst ?_ (by decide) | with_reducible refine Gv.sub ?_ ?_ | with_reducible refine Gv.add ?_ ?_ | with_reducible refine Gv.catT ?_ ?_ (by decide) | refine Gv.mulS (Gv.str) (Gv.int) (by decide) (by decide) (by decide))
  have tk4 := tk3.same s4
  have tw4 := Dt.same (wo_same s4) tw3
  refine seqN (GvL.lst (ds := bad1) ?a3 (by decide) tk4 H4 _ (Same.refl H4) fun l5 vs5 H5 s5 e5 d5 => ?_)
  case a3 => unfold bad1; repeat' (first | with_reducible exact Gv.non | with_reducible exact Gv.bl | with_reducible exact Gv.int | with_reducible exact Gv.str | with_reducible exact Ga.nil | exact Gv.var rfl (.int _) | exact Gv.var rfl (by assumption) | with_reducible refine Ga.cons ?_ ?_ | with_reducible refine Gv.tup ?_ (by decide) | with_reducible refine Gv.lst ?_ (by decide) | with_reducible refine Gv.sub ?_ ?_ | with_reducible refine Gv.add ?_ ?_ | with_reducible refine Gv.catT ?_ ?_ (by decide) | refine Gv.mulS (Gv.str) (Gv.int) (by decide) (by decide) (by decide))
  have tk5 := tk4.same s5
  have tw5 := Dt.same (wo_same s5) tw4
  refine seqN (GvL.cat (xs := bad1) (ys := bad2) (GvL.var rfl e5 d5) (GvL.lst ?a4 (by decide)) (by decide) tk5 H5 _ (Same.refl H5) fun l6 vs6 H6 s6 e6 d6 => ?_)
  case a4 => unfold bad2; repeat' (first | with_reducible exact Gv.non | with_reducible exact Gv.bl | with_reducible exact Gv.int | with_reducible exact Gv.str | with_reducible exact Ga.nil | exact Gv.var rfl (.int _) | exact Gv.var rfl (by assumption) | with_reducible refine Ga.cons ?_ ?_ | with_reducible refine Gv.tup ?_ (by decide) | with_reducible refine Gv.lst ?_ (by decide) | with_reducible refine Gv.sub ?_ ?_ | with_reducible refine Gv.add ?_ ?_ | with_reducible refine Gv.catT ?_ ?_ (by decide) | refine Gv.mulS (Gv.str) (Gv.int) (by decide) (by decide) (by decide))
  have tk6 := tk5.same s6
  refine seqN (GvL.cat (xs := bad1 ++ bad2) (ys := bad3) (GvL.var rfl e6 d6) (GvL.lst ?a5 (by decide)) (by decide) tk6 H6 _ (Same.refl H6) fun l7 vs7 H7 s7 e7 d7 => ?_)
  case a5 => unfold bad3; repeat' (first | with_reducible exact Gv.non | with_reducible exact Gv.bl | with_reducible exact Gv.int | with_reducible exact Gv.str | with_reducible exact Ga.nil | exact Gv.var rfl (.int _) | exact Gv.var rfl (by assumption) | with_reducible refine Ga.cons ?_ ?_ | with_reducible refine Gv.tup ?_ (by decide) | with_reducible refine Gv.lst ?_ (by decide) | with_reducible refine Gv.sub ?_ ?_ | with_reducible refine Gv.add ?_ ?_ | with_reducible refine Gv.catT ?_ ?_ (by decide) | refine Gv.mulS (Gv.str) (Gv.int) (by decide) (by decide) (by decide))
  have tk7 := tk6.same s7
  refine seqN (GvL.cat (xs := (bad1 ++ bad2) ++ bad3) (ys := bad4) (GvL.var rfl e7 d7) (GvL.lst ?a6 (by decide)) (by decide) tk7 H7 _ (Same.refl H7) fun l8 vs8 H8 s8 e8 d8 => ?_)
  case a6 => unfold bad4; repeat' (first | with_reducible exact Gv.non | with_reducible exact Gv.bl | with_reducible exact Gv.int | with_reducible exact Gv.str | with_reducible exact Ga.nil | exact Gv.var rfl (.int _) | exact Gv.var rfl (by assumption) | with_reducible refine Ga.cons ?_ ?_ | with_reducible refine Gv.tup ?_ (by decide) | with_reducible refine Gv.lst ?_ (by decide) | with_reducible refine Gv.sub ?_ ?_ | with_reducible refine Gv.add ?_ ?_ | with_reducible refine Gv.catT ?_ ?_ (by decide) | refine Gv.mulS (Gv.str) (Gv.int) (by decide) (by decide) (by decide))
  have tk8 := tk7.same s8
  have s48 : Same H4 H8 := ((s5.trans s6).trans s7).trans s8
  have e48 := s48 _ _ e4
  have n4 : vs4.length = 10 := d4.length
  have n8 : vs8.length = 21 := d8.length
  refine seqN (lcL (GvL.cat (xs := goods) (ys := bads) (GvL.var rfl e48 (Dts.same (wo_same s48) d4)) (GvL.var rfl e8 d8) (by decide) tk8 H8 _ (Same.refl H8) fun l9 vs9 H9 s9 e9 d9 => ⟨l9, rfl, ⟨vs9, .inl (.inl e9)⟩, fun D hD => ?_⟩))
  have n9 : vs9.length = 31 := d9.length
  have d9' : Dts H9 vs9 (goods ++ bads) := Dts.same wo_of d9
  refine lc_pure (j := 5) (walk_list (K := K) (a := l9) (xs := vs9)) rfl (fun i => .bl (kindB ((goods ++ bads).getD i .none))) (by rw [n9]; exact Nat.lt_of_le_of_lt (show 31 ≤ 1000 by decide) (by decide)) hD (fun H' s' => .inl (.inl (s' _ _ e9))) (fun i x H1 H2 hi s1 y => ?_) (fun H10 s10 hL => ?_)
  · obtain ⟨rfl, hx⟩ := y
    refine ⟨rfl, fun Q' q' => ?_⟩
    obtain ⟨d, hd, dd⟩ := (Dts.same s1 d9').get hx
    have hm := List.all_eq_true.mp all_small d (List.mem_of_getElem? hd)
    refine ⟨x, by rfl, x, d, rfl, dd, of_decide_eq_true hm, fun H3 s3 => ?_⟩
    have := q' H3 s3
    rw [List.getD_eq_getElem?_getD, hd] at this
    exact this
  have s810 : Same H8 H10 := s9.trans s10
  have hD' : H10 D = some (.lst (heard.map V.bl)) := by
    rw [hL, n9]
    rw [show (31 : Nat) = (goods ++ bads).length from rfl, range_getD (goods ++ bads) (fun d => V.bl (kindB d)) .none]
    rw [show (goods ++ bads).map (fun d => V.bl (kindB d)) = ((goods ++ bads).map kindB).map V.bl by rw [List.map_map]; rfl, all_heard]
    rfl
  have a4 : H10 l4 = some (.lst vs4) := s810 _ _ e48
  have a8 : H10 l8 = some (.lst vs8) := s810 _ _ e8
  refine ⟨_, rfl, .inr ⟨D, heard, rfl, hD', heard_small, ?_⟩⟩
  refine ⟨Nat.le_trans (show 1 ≤ 1000 by decide) (by decide), fun p hp _ => ⟨_, rfl, .inl ⟨l4, vs4, rfl, .inl (.inl (.inl (Same.new hp _ _ a4))), .inr (.inr ⟨p, ((10 : Nat) : Int), [.bl true], rfl, congrArg (fun n : Nat => V.int n) n4, upd_same, by decide, by decide, (show 1 * 10 ≤ sizeLine from Nat.le_trans (show 10 ≤ 1000 by decide) (by decide)), fun p1 hp1 => ?_⟩)⟩⟩⟩
  have s11 := (Same.new (o := .lst [.bl true]) hp).trans (Same.new (o := .lst (List.replicate ((10 : Nat) : Int).toNat [V.bl true]).flatten) hp1)
  refine ⟨Nat.le_trans (show 1 ≤ 1000 by decide) (by decide), fun p2 hp2 _ => ⟨_, rfl, .inl ⟨l8, vs8, rfl, .inl (.inl (.inl (Same.new hp2 _ _ (s11 _ _ a8)))), .inr (.inr ⟨p2, ((21 : Nat) : Int), [.bl false], rfl, congrArg (fun n : Nat => V.int n) n8, upd_same, by decide, by decide, (show 1 * 21 ≤ sizeLine from Nat.le_trans (show 21 ≤ 1000 by decide) (by decide)), fun p3 hp3 => ?_⟩)⟩⟩⟩
  refine .inr (.inr (.inl ⟨p1, p3, _, _, rfl, rfl, Same.new hp3 _ _ (Same.new hp2 _ _ upd_same), upd_same, (show 10 + 21 ≤ sizeLine from Nat.le_trans (show 31 ≤ 1000 by decide) (by decide)), fun p4 hp4 => ?_⟩))
  refine .inr ⟨p4, heard, rfl, by rw [upd_same]; rfl, heard_small, .inl ⟨rfl, ?_⟩⟩
  rw [decide_eq_true rfl]
  exact q _ (((((((s2.trans s3).trans s4).trans s48).trans s810).trans s11).trans (Same.new hp2)).trans ((Same.new hp3).trans (Same.new hp4)))
end
end K01

namespace K01
open PySem L2 Xg
/-! ### fine data can be shown, and has no percent sign -/
mutual
theorem fine_shows : ∀ d : PyData, fine d = true → d.showable = true ∧ d.depth ≤ deep d + 1 ∧ d.shown.length ≤ ws d ∧ clean d = true
  | .none, _ => ⟨rfl, Nat.zero_le _, (by decide : (PyData.shown .none).length ≤ 10), rfl⟩
  | .bool b, _ => ⟨rfl, Nat.zero_le _, by cases b <;> exact (by decide), rfl⟩
  | .int i, h => by
    have hb : i.natAbs < 10 ^ 20 := of_decide_eq_true (show decide (i.natAbs < 10 ^ 20) = true from h)
    have lg : i.natAbs.log2 < 1920 := Nat.lt_of_lt_of_le (PySem.Flt.log2_lt_of (by decide : 0 < 70) (Nat.lt_of_lt_of_le hb (by decide))) (by decide)
    refine ⟨decide_eq_true lg, Nat.zero_le _, ?_, rfl⟩
    have l := PySem.int_text_length_le (a := i) (k := i.natAbs.log2 + 1) (Nat.succ_pos _) (Nat.lt_succ_self _)
    show (Str.ofString (toString i)).length ≤ i.natAbs.log2 + 10
    have e : (Str.ofString (toString i)).length = (toString i).length := PySem.ofString_length _
    omega
  | .str x, h => by
    have hc : ∀ c ∈ x.cps.toList, c < 128 ∧ c ≠ 37 := fun c m => by
      have := List.all_eq_true.mp (show (x.cps.toList.all fun c => decide (c < 128) && c != 37) = true from h) c m
      simpa using this
    refine ⟨rfl, Nat.zero_le _, ?_, ?_⟩
    · have := PySem.StrLaws.reprText_len x fun c m => Nat.lt_trans (hc c m).1 (by decide)
      show (reprText x).length ≤ 10 * x.length + 10
      omega
    · exact List.all_eq_true.mpr fun c m => by simpa using (hc c m).2
  | .list xs, h => by
    obtain ⟨h1, h2, h3, h4⟩ := fines_show xs h
    refine ⟨h1, Nat.succ_le_succ h2, ?_, h4⟩
    have := PySem.listText_len_le (PyData.shownAll xs)
    show (listText (PyData.shownAll xs)).length ≤ 10 + wss xs
    omega
  | .tuple xs, h => by
    obtain ⟨h1, h2, h3, h4⟩ := fines_show xs h
    refine ⟨h1, Nat.succ_le_succ h2, ?_, h4⟩
    have := PySem.tupleText_len_le (PyData.shownAll xs)
    show (tupleText (PyData.shownAll xs)).length ≤ 10 + wss xs
    omega
  | .dict [], _ => ⟨rfl, Nat.le_refl _, (by decide : (PyData.shown (.dict [])).length ≤ 10), rfl⟩
  | .dict (_ :: _), h => by cases h
theorem fines_show : ∀ ds : List PyData, fines ds = true → PyData.showableAll ds = true ∧ PyData.depthAll ds ≤ deeps ds + 1 ∧ ((PyData.shownAll ds).map (·.length)).sum + 2 * (PyData.shownAll ds).length ≤ wss ds ∧ cleans ds = true
  | [], _ => ⟨rfl, Nat.zero_le _, Nat.le_refl _, rfl⟩
  | d :: ds, h => by
    have h' : (fine d && fines ds) = true := h
    rw [Bool.and_eq_true] at h'
    obtain ⟨a1, a2, a3, a4⟩ := fine_shows d h'.1
    obtain ⟨b1, b2, b3, b4⟩ := fines_show ds h'.2
    refine ⟨?_, ?_, ?_, ?_⟩
    · show (d.showable && PyData.showableAll ds) = true
      rw [a1, b1]
      rfl
    · show max d.depth (PyData.depthAll ds) ≤ max (deep d) (deeps ds) + 1
      omega
    · show d.shown.length + ((PyData.shownAll ds).map (·.length)).sum + 2 * ((PyData.shownAll ds).length + 1) ≤ ws d + 2 + wss ds
      omega
    · show (clean d && cleans ds) = true
      rw [a4, b4]
      rfl
end
/-- what the law asks of a thing that it shows -/
structure Seen (d : PyData) : Prop where
  sh : d.showable = true
  dep : d.depth ≤ 40
  sz : d.shown.length ≤ sizeLine
  sm : ws d ≤ 100000
  cl : clean d = true
theorem Seen.of {d : PyData} (h : okD 50000 20 d = true) : Seen d := by
  unfold okD at h
  simp only [Bool.and_eq_true, decide_eq_true_eq] at h
  obtain ⟨a, b, e, f⟩ := fine_shows d h.1
  exact ⟨a, by omega, Nat.le_trans (show d.shown.length ≤ 50000 by omega) (by decide), by omega, f⟩
theorem seen_bool (b : Bool) : Seen (.bool b) := Seen.of (by cases b <;> decide)
end K01

namespace K01
open PySem L2 Xg
section
variable {P : Program} {w : World} {K : PySem.W.Frag} {mg : Str → Option Value} {base : Heap} {c : Addr} {ns : List Int}
def sp_law : Sp := fun vs H Q _ => vs = [.ref c] ∧ SqL K H c (ns.map V.int) ∧ ns.length ≤ 63 ∧ ∀ H', Q (.bl true) H'
theorem ok_law (T : Tx K mg) (F : FunAt K mg "law" s_law ["_law_cells"]) (D_is_kind : Has P w K mg base "is_kind" 5 ["value"] sp_is_kind)
    (D__law_is_kind : Has P w K mg base "_law_is_kind" 2 ["_law_thing"] sp_kind2) (D__law_begun : Has P w K mg base "_law_begun" 1 ["_law_cells"] (sp_begun (K := K) (c := c) (ns := ns)))
    (D__law_kind : Has P w K mg base "_law_kind" 3 ["_law_m"] (sp_kind (K := K) (c := c) (ns := ns)))
    (D__law_bent : Has P w K mg base "_law_bent" 9 ["_law_m", "_law_thing"] (sp_bent (K := K) (c := c) (ns := ns) 5))
    (D__law_bounds_right : HasG P w K mg base "_law_bounds_right" 6 [] sp_right) : HasG P w K mg base "law" 10 ["_law_cells"] (sp_law (K := K) (c := c) (ns := ns)) := by
  refine HasG.mk' F sc_law (fun vs H Q E h => ?_) (fun f cdv A outer s H vs Q E gd hr h => ?_)
  · obtain ⟨rfl, _⟩ := h
    rfl
  obtain ⟨rfl, hc, few, q⟩ := h
  have hu : (bodyCx P w K mg base N_law "law" s_law f cdv A outer s H E).A.units + 64 < cLine := hr.units
  have hr_is_kind := hr.mono (show 5 ≤ 9 by decide)
  have hr__law_is_kind := hr.mono (show 2 ≤ 9 by decide)
  have hr__law_begun := hr.mono (show 1 ≤ 9 by decide)
  have hr__law_kind := hr.mono (show 3 ≤ 9 by decide)
  have hr__law_bent := hr
  have hr__law_bounds_right := hr.mono (show 6 ≤ 9 by decide)
  refine ⟨_, (pss_cons (ps_set (i := 1) sc_law.nd rfl (Or.inr rfl) (pe_own D__law_begun hr__law_begun rfl (pa_cons (pv 0) pa_nil)))
      (pss_cons (ps_for PassesOwn.never rfl (pi_range1 rfl T.z_range (pa_cons (pe_op opAddA pe_int (pe_callB (call_min2 rfl) rfl T.z_min B.min (pa_cons pe_int (pa_cons (pe_callB callLenA rfl T.z_len B.len (pa_cons (pv 0) pa_nil)) pa_nil)))) pa_nil)) (pg_name (i := 2) sc_law.nd rfl (Or.inl rfl))
        (pss_cons (ps_set (i := 3) sc_law.nd rfl (Or.inr rfl) (pe_own D__law_kind hr__law_kind rfl (pa_cons (pv 1) pa_nil)))
        (pss_cons (ps_setLc (i := 4) (own := [("_law_k", 7)]) (g := gName 7) (tt := tYes) rfl sc_law.nd rfl rfl (sw_true rfl rfl rfl (by decide +kernel)) (pi_range1 rfl T.z_range (pa_cons pe_int pa_nil)) (blkOk_by (N := N_law) (sc := defScope s_law) (by decide +kernel)) (fun _ _ _ _ _ => pg_name (i := 7) sc_law.nd rfl (Or.inl rfl)) (fun _ _ _ _ _ => pts_nil) (fun _ _ _ _ _ => (pe_own D__law_bent hr__law_bent rfl (pa_cons (pv 1) (pa_cons (pv 3) pa_nil)))))
        (pss_cons (ps_for PassesOwn.never rfl (pi_list (pe_op opAddA (pe_op opAddA (pe_lstS (pa_cons (pv 3) pa_nil)) (pv 4)) (pe_lc (own := [("_law_one", 8)]) (g := gName 8) (tt := tYes) rfl sc_law.nd (pi_list (pe_slice slAll (pv 4) po_none (po_some pe_int))) (blkOk_by (N := N_law) (sc := defScope s_law) (by decide +kernel)) (fun _ _ _ _ _ => pg_name (i := 8) sc_law.nd rfl (Or.inl rfl)) (fun _ _ _ _ _ => pts_nil) (fun _ _ _ _ _ => (pe_own D__law_bent hr__law_bent rfl (pa_cons (pv 1) (pa_cons (pv 8) pa_nil))))))) (pg_name (i := 5) sc_law.nd rfl (Or.inl rfl))
          (pss_cons (ps_set (i := 6) sc_law.nd rfl (Or.inl rfl) (pe_callB (callReprA (by exact gd) (by exact hu)) rfl T.z_repr B.repr (pa_cons (pv 5) pa_nil)))
          (pss_one (ps_if (PW.pt (pw_or (pt_cmpR (opNeA (by exact hu)) (pe_callB (callReprA (by exact gd) (by exact hu)) rfl T.z_repr B.repr (pa_cons (pe_own D_is_kind hr_is_kind rfl (pa_cons (pv 5) pa_nil)) pa_nil)) (pe_callB (callReprA (by exact gd) (by exact hu)) rfl T.z_repr B.repr (pa_cons (pe_own D__law_is_kind hr__law_is_kind rfl (pa_cons (pv 5) pa_nil)) pa_nil)) (nomark _)) (pw_or1 (pt_cmpR (opNeA (by exact hu)) (pe_callB (callReprA (by exact gd) (by exact hu)) rfl T.z_repr B.repr (pa_cons (pv 5) pa_nil)) (pv 6) (nomark _)))))
            (pss_one (ps_ret pe_bl))
            pss_nil))))
        (pss_one (ps_if (pt_not (pt_val (pe_own D__law_is_kind hr__law_is_kind rfl (pa_cons (pv 3) pa_nil))))
          (pss_one (ps_ret pe_bl))
          pss_nil))))))
      (pss_one (ps_ret (pe_ownG0 (gd) D__law_bounds_right hr__law_bounds_right rfl))))), ?_⟩
  refine seqN (ownA (varC rfl ⟨rfl, hc, few, fun m H0 hm s0 S0 => ?_⟩))
  refine seqI (forI ?_)
  have len0 : (ns.map V.int).length = ns.length := List.length_map ..
  refine ⟨_, rfl, .inl ⟨c, _, rfl, .inl (s0.seq hc), 12, _, rfl, .inl ⟨_, _, rfl, rfl, _, rfl, ?_, ?_, ?_⟩⟩⟩
  · split <;> omega
  · split <;> omega
  have turns : (8 + if ((ns.map V.int).length : Int) < 12 then ((ns.map V.int).length : Int) else 12).toNat ≤ 20 := by split <;> omega
  generalize (8 + if ((ns.map V.int).length : Int) < 12 then ((ns.map V.int).length : Int) else 12).toNat = n at turns
  refine for_it (walk_range (lo := 0) (n := n)) (fun i σ' H' => ∃ (x2 x3 x4 x5 x6 : Option V) (k : Nat), σ' = [some (.ref c), some (.ref m), x2, x3, x4, x5, x6, none, none] ∧ Src K c ns H' m k ∧ k ≤ 1000 * i) ?h0 (fun _ _ _ _ _ => trivial) ?hs ?hd
  case h0 => exact ⟨none, none, none, none, none, 0, rfl, S0, Nat.zero_le _⟩
  case hd =>
    rintro σ' H' ⟨x2, x3, x4, x5, x6, k, rfl, S, kb⟩
    obtain ⟨kv, kvs, em⟩ := S.full
    exact ⟨rfl, ⟨m, _, em⟩, fun H2 _ => q H2⟩
  case hs =>
    rintro i x σ' H1' H1 hi ⟨x2, x3, x4, x5, x6, k, rfl, S, kb⟩ ⟨rfl, rfl⟩
    obtain ⟨kv, kvs, em⟩ := S.full
    refine seqN (ownA (varC rfl ⟨m, k, m, rfl, S, by omega, ⟨_, em⟩, fun v d k1 H2 okd isk ka kb1 b1 S1 dv => ?_⟩))
    refine seqN ?_
    refine ⟨8, rfl, by decide, by decide, fun D hD => ?_⟩
    have Dm : D ≠ m := fun z => by
      obtain ⟨_, _, e⟩ := S1.full
      rw [← z, hD] at e
      cases e
    have okd' := okd
    unfold okD at okd'
    simp only [Bool.and_eq_true, decide_eq_true_eq] at okd'
    refine lc_it (walk_range (lo := 0) (n := 8)) (fun i H' => ∃ (acc : List V) (ds : List PyData) (k' : Nat), H' D = some (.lst acc) ∧ acc.length = i ∧ Dts (wo D H') acc ds ∧ ds.all (okD 12000 4) = true ∧ Dt (wo D H') v d ∧ Src K c ns H' m k' ∧ k' ≤ k1 + 20 * i ∧ But m H2 H')
      ?g0 (fun _ _ _ _ => trivial) ?gs ?gd
    case g0 =>
      refine ⟨[], [], k1, upd_same, rfl, .nil, rfl, ?_, S1.same (Same.new hD), Nat.le_refl _, But.of_same (Same.new hD)⟩
      rw [wo_mut]
      exact Dt.same (wo_new hD) (Dt.same wo_of dv)
    case gs =>
      rintro j y H3' H3 hj ⟨acc, ds, k', eD, el, dacc, okds, dvv, S3, kb3, b3⟩ ⟨rfl, rfl⟩
      refine ⟨wipe_back, ?_⟩
      refine ownA (varC rfl (varC rfl ⟨m, v, d, k', D, rfl, dvv, okd'.1, by omega, by omega, S3, by omega, ⟨_, eD⟩, fun v' d' k'' H4 ok' h1 h2 b4 S4 dd' => ?_⟩))
      refine ⟨acc, b4 _ _ Dm eD, by rw [el]; exact Nat.lt_of_le_of_lt (show j ≤ 1000 by omega) (by decide), acc ++ [v'], ds ++ [d'], k'', upd_same, by rw [List.length_append, el]; rfl, ?_, ?_, ?_, Src.mut S1 (b3.trans b4) S4 hD, by omega, But.mut (b3.trans b4) hD⟩
      · rw [wo_mut]
        exact Dts.append (Dts.butW S3.full b4 dacc) (.cons dd' .nil)
      · rw [List.all_append, okds, List.all_cons, okD_mono ok' (by omega) (by omega)]
        rfl
      · rw [wo_mut]
        exact Dt.butW S3.full b4 dvv
    case gd =>
      rintro H5 ⟨acc, ds, k2, eD, el, dacc, okds, dvv, S5, kb5, b5⟩
      refine seqI (forI (listI (opI (opI (lstI (varC rfl ⟨Nat.le_trans (show 1 ≤ 1000 by decide) (by decide), fun p hp _ => ⟨_, rfl, ?_⟩⟩))))))
      refine .inr (.inr (.inl ⟨p, D, [v], acc, rfl, rfl, upd_same, Same.new hp _ _ eD, by rw [el]; exact Nat.le_trans (show 9 ≤ 1000 by decide) (by decide), fun q1 hq1 => ?_⟩))
      refine lcL ⟨_, rfl, 4, rfl, .inl ⟨D, acc, rfl, .inl (.inl (Same.new hq1 _ _ (Same.new hp _ _ eD))), fun q2 hq2 => ⟨q2, rfl, ⟨_, .inl (.inl upd_same)⟩, fun D2 hD2 => ?_⟩⟩⟩
      have s8 : Same H5 (upd (upd (upd H5 p (.lst [v])) q1 (.lst ([v] ++ acc))) q2 (.lst (cutV acc none (some 4)))) := ((Same.new hp).trans (Same.new hq1)).trans (Same.new hq2)
      have e1 : (upd (upd (upd H5 p (.lst [v])) q1 (.lst ([v] ++ acc))) q2 (.lst (cutV acc none (some 4)))) q1 = some (.lst ([v] ++ acc)) := Same.new hq2 _ _ upd_same
      have e2 : (upd (upd (upd H5 p (.lst [v])) q1 (.lst ([v] ++ acc))) q2 (.lst (cutV acc none (some 4)))) q2 = some (.lst (cutV acc none (some 4))) := upd_same
      generalize upd (upd (upd H5 p (.lst [v])) q1 (.lst ([v] ++ acc))) q2 (.lst (cutV acc none (some 4))) = H8 at s8 e1 e2 hD2
      have S8 := S5.same s8
      have all8 : Dts (wo D2 H8) ([v] ++ acc) ([d] ++ ds) := Dts.same (wo_new hD2) (Dts.same s8 (.cons (Dt.same wo_of dvv) (Dts.same wo_of dacc)))
      have few4 : (cutV acc none (some 4)).length ≤ 8 := by
        have := cutV_length acc none (some 4)
        omega
      have q1m : q1 ≠ m := ne_full S8.full e1
      have q2m : q2 ≠ m := ne_full S8.full e2
      have Dm2 : D2 ≠ m := fun z => by
        obtain ⟨_, _, e⟩ := S8.full
        rw [← z, hD2] at e
        cases e
      refine lc_it (walk_list (K := K) (a := q2) (xs := cutV acc none (some 4))) (fun i H' => ∃ (acc2 : List V) (ds2 : List PyData) (k' : Nat), H' D2 = some (.lst acc2) ∧ acc2.length = i ∧ Dts (wo D2 H') acc2 ds2 ∧ ds2.all (okD 26000 6) = true ∧
        Dts (wo D2 H') ([v] ++ acc) ([d] ++ ds) ∧ Src K c ns H' m k' ∧ k' ≤ k2 + 20 * i ∧ But m H8 H') ?f0 (fun i H' _ ⟨_, _, _, _, _, _, _, _, _, _, b⟩ => .inl (.inl (b _ _ q2m e2))) ?fs ?fd
      case f0 =>
        refine ⟨[], [], k2, upd_same, rfl, .nil, rfl, ?_, S8.same (Same.new hD2), Nat.le_refl _, But.of_same (Same.new hD2)⟩
        rw [wo_mut]
        exact all8
      case fs =>
        rintro j y H3' H3 hj ⟨acc2, ds2, k', eD2, el2, dacc2, okds2, dall, S3, kb3, b3⟩ ⟨rfl, hx⟩
        have items : Dts (wo D2 H3) (cutV acc none (some 4)) (cutD ds none (some 4)) := Dts.cut (Dts.drop 1 dall) none (some 4)
        obtain ⟨d', hd', dx⟩ := Dts.get items hx
        have okx := List.all_eq_true.mp okds d' (List.mem_of_mem_drop (List.mem_of_mem_take (List.mem_of_getElem? hd')))
        unfold okD at okx
        simp only [Bool.and_eq_true, decide_eq_true_eq] at okx
        refine ⟨wipe_back, ?_⟩
        refine ownA (varC rfl (varC rfl ⟨m, y, d', k', D2, rfl, dx, okx.1, by omega, by omega, S3, by omega, ⟨_, eD2⟩, fun v' d2 k'' H4 ok' h1 h2 b4 S4 dd' => ?_⟩))
        refine ⟨acc2, b4 _ _ Dm2 eD2, by rw [el2]; exact Nat.lt_of_le_of_lt (show j ≤ 1000 by omega) (by decide), acc2 ++ [v'], ds2 ++ [d2], k'', upd_same, by rw [List.length_append, el2]; rfl, ?_, ?_, ?_, Src.mut S8 (b3.trans b4) S4 hD2, by omega, But.mut (b3.trans b4) hD2⟩
        · rw [wo_mut]
          exact Dts.append (Dts.butW S3.full b4 dacc2) (.cons dd' .nil)
        · rw [List.all_append, okds2, List.all_cons, okD_mono ok' (by omega) (by omega)]
          rfl
        · rw [wo_mut]
          exact Dts.butW S3.full b4 dall
      case fd =>
        rintro H9 ⟨acc2, ds2, k3, eD2, el2, dacc2, okds2, dall, S9, kb9, b9⟩
        have n9 : acc2.length ≤ 8 := by omega
        refine .inr (.inr (.inl ⟨q1, D2, [v] ++ acc, acc2, rfl, rfl, b9 _ _ q1m e1, eD2, ?_, fun q3 hq3 => ⟨q3, rfl, ⟨_, .inl (.inl upd_same)⟩, ?_⟩⟩))
        · rw [List.length_append, el]
          exact Nat.le_trans (show 1 + 8 + acc2.length ≤ 1000 by omega) (by decide)
        have d10 : Dts (upd H9 q3 (.lst (([v] ++ acc) ++ acc2))) (([v] ++ acc) ++ acc2) (([d] ++ ds) ++ ds2) := Dts.same (Same.new hq3) (Dts.append (Dts.same wo_of dall) (Dts.same wo_of dacc2))
        have S10 : Src K c ns (upd H9 q3 (.lst (([v] ++ acc) ++ acc2))) m k3 := S9.same (Same.new hq3)
        have e10 : upd H9 q3 (.lst (([v] ++ acc) ++ acc2)) q3 = some (.lst (([v] ++ acc) ++ acc2)) := upd_same
        generalize upd H9 q3 (.lst (([v] ++ acc) ++ acc2)) = H10 at d10 S10 e10
        have okall : ((([d] ++ ds) ++ ds2).all fun d => okD 50000 20 d) = true := by
          refine List.all_eq_true.mpr fun e he => ?_
          rcases List.mem_append.mp he with he | he
          · rcases List.mem_append.mp he with he | he
            · rw [List.mem_singleton.mp he]
              exact okD_mono okd (by decide) (by decide)
            · exact okD_mono (List.all_eq_true.mp okds e he) (by decide) (by decide)
          · exact okD_mono (List.all_eq_true.mp okds2 e he) (by decide) (by decide)
        refine for_it (walk_list (K := K) (a := q3) (xs := ([v] ++ acc) ++ acc2)) (fun i' σ' H' => ∃ (x5 x6 : Option V), σ' = [some (.ref c), some (.ref m), some (.int (0 + (i : Int))), some v, some (.ref D), x5, x6, none, none] ∧ Same H10 H')
          ?p0 (fun _ _ _ _ ⟨_, _, _, s⟩ => .inl (.inl (s _ _ e10))) ?ps ?pd
        case p0 => exact ⟨x5, x6, rfl, Same.refl H10⟩
        case pd =>
          rintro σ' H' ⟨y5, y6, rfl, s⟩
          have sd := Seen.of (okD_mono okd (show 5000 ≤ 50000 by decide) (show 2 ≤ 20 by decide))
          refine ⟨_, rfl, v, d, rfl, ?_, sd.sm, sd.cl, fun H2' s2 => ⟨_, rfl, ?_⟩⟩
          · have d11 : Dts H10 (v :: (acc ++ acc2)) (d :: (ds ++ ds2)) := d10
            cases d11 with
            | cons h _ => exact Dt.same s h
          · rw [isk]
            exact ⟨some (.int (0 + (i : Int))), some v, some (.ref D), y5, y6, k3, rfl, (S10.same s).same s2, by omega⟩
        case ps =>
          rintro j y σ' H11' H11 hj ⟨y5, y6, rfl, s⟩ ⟨rfl, hx⟩
          obtain ⟨e, he, dy⟩ := Dts.get (Dts.same s d10) hx
          have sd := Seen.of (List.all_eq_true.mp okall e (List.mem_of_getElem? he))
          have sb := seen_bool (kindB e)
          refine seqN ⟨_, rfl, .inl ⟨y, e, rfl, dy, sd.sh, sd.dep, sd.sz, ?_⟩⟩
          refine ⟨_, rfl, y, e, rfl, dy, sd.sm, fun H12 s12 => .inl ⟨_, .bool (kindB e), rfl, .bl _, sb.sh, sb.dep, sb.sz, ?_⟩⟩
          refine ⟨_, rfl, y, e, rfl, Dt.same s12 dy, sd.sm, sd.cl, fun H13 s13 => .inl ⟨_, .bool (kindB e), rfl, .bl _, sb.sh, sb.dep, sb.sz, .inl ⟨rfl, _, rfl, ?_⟩⟩⟩
          rw [decide_eq_true rfl]
          refine ⟨_, rfl, .inl ⟨y, e, rfl, Dt.same s13 (Dt.same s12 dy), sd.sh, sd.dep, sd.sz, _, rfl, .inl ⟨rfl, _, rfl, ?_⟩⟩⟩
          rw [decide_eq_true rfl]
          exact ⟨_, _, rfl, (s.trans s12).trans s13⟩
end
end K01

namespace K01
open PySem PySem.Spec PyProof.Rows L2 Xg
/-! ### the end: a law whose def knows that no repr runs -/
section
variable {P : Program} {w : World} {K : PySem.W.Frag} {mg mb : Str → Option Value} {k : Nat} {fa a : Addr} {nm x : Str} {sp : Sp} {s₁ : Shared} {vs : List Value} {ns : List Int}
/-- from a heap in which the script alone may be tracked -/
theorem end_from (KX : K.In s₁.heap) (hns : s₁.heap.Ns mainGlobals mg) (hb : s₁.heap.Ns builtinsNs mb) (hbb : ∀ x : Str, x ≠ "__name__" → mb x = bootBuiltins x) (hlim : s₁.heap.NoLimit) (hg : s₁.gens = #[])
    (ha : s₁.heap.get? a = some { cls := .type "list", data := .seq vs.toArray }) (hr : Room k callerA) (hm : mg nm = some (.ref fa))
    (F : ∀ base : Heap, K.In base → base.Ns mainGlobals mg → HasG P w K mg base nm k [x] sp) {H : Hp} (prom : sp [.ref a] H (fun v _ => v = .bl true) fun _ _ _ => False)
    (only : ∀ b u, H b = some u → b = a ∧ K.lookup a = none ∧ ∃ o xs, u = .frz o (.lst xs)) (hok : HOk P w H s₁.heap) :
    codeAny (model P w) callerA (.call (.ref fa) ⟨[.ref a], []⟩) (fun r s' => r = .ok (.ret (.bool true)) ∧ OldK s₁.heap s'.heap ∧ s'.os = s₁.os ∧ AllBare s'.gens) s₁ := by
  have free : ∀ {b : Addr} {o : Obj}, s₁.heap.get? b = some o → (b = a → K.lookup a ≠ none ∨ o.data ≠ .seq vs.toArray) → H b = none := fun {b o} e no => by
    cases z : H b with
    | none => rfl
    | some u =>
      obtain ⟨rfl, hk, _⟩ := only b u z
      rw [ha] at e
      cases e
      rcases no rfl with no | no
      · exact absurd hk no
      · exact absurd rfl no
  have ns_at : ∀ {b : Addr} {m : Str → Option Value}, s₁.heap.Ns b m → (hidT s₁.heap H).Ns b m := fun {b m} z => by
    obtain ⟨o, es, ep, e, d, r⟩ := z
    exact ⟨o, es, ep, hidT_get e (free e fun _ => .inr (by rw [d]; exact fun z => by cases z)), d, r⟩
  have kin : K.In (hidT s₁.heap H) := fun b o e => hidT_get (KX b o e) (free (KX b o e) fun z => .inl (by rw [← z, e]; exact fun z => by cases z))
  have mod : Mod K mg (hidT s₁.heap H) := by
    obtain ⟨mc, h1, h2⟩ := hlim
    exact ⟨kin, ns_at hns, ⟨mb, ns_at hb, hbb⟩, ⟨mc, ns_at h1, h2⟩⟩
  have env : Env0 P w K mg (hidT s₁.heap H) callerA [] s₁ H := ⟨rfl, mod, fun b o e => of_hidT e, Nat.le_of_eq (hidT_size _ _), trivial, fun b z => absurd (show b ∈ ([] : List Addr) from z) (by simp), hok, .of_eq hg⟩
  obtain ⟨f, fd, D, hmf, _, bind⟩ := (F _ kin (ns_at hns)).ex
  rw [hm] at hmf
  cases hmf
  have bt := bind s₁ [.ref a] KX rfl
  refine codeAny_mono (D.run callerA [] s₁ H ⟨[.ref a], []⟩ [.ref a] [.ref a] _ _ rfl hr env bt (.cons rfl .nil) prom) fun r s' h => ?_
  match r, h with
  | .error e, h => exact (show False from h).elim
  | .ok .next, h => exact (show False from h).elim
  | .ok .brk, h => exact (show False from h).elim
  | .ok .cont, h => exact (show False from h).elim
  | .ok (.ret u), h =>
    obtain ⟨v, H', os, bare, un, hok', rel, q⟩ := h
    obtain rfl : v = .bl true := q
    obtain rfl : u = Value.bool true := rel
    refine ⟨rfl, OldK.of_keep fun b o e => ?_, os, bare⟩
    cases z : H b with
    | none => exact un.keep b o e z (fun y => absurd (show b ∈ ([] : List Addr) from y) (by simp)) (by simp)
    | some u =>
      obtain ⟨_, _, ob, xs, rfl⟩ := only b u z
      have z2 := un.frzs b ob _ z
      obtain ⟨e1, _⟩ := hok b _ z
      obtain ⟨e2, _⟩ := hok' b _ z2
      rw [e] at e1
      cases e1
      exact e2
theorem end_call (KX : K.In s₁.heap) (hns : s₁.heap.Ns mainGlobals mg) (hb : s₁.heap.Ns builtinsNs mb) (hbb : ∀ x : Str, x ≠ "__name__" → mb x = bootBuiltins x) (hlim : s₁.heap.NoLimit) (hg : s₁.gens = #[])
    (ha : s₁.heap.get? a = some { cls := .type "list", data := .seq vs.toArray }) (hi : IntsAre vs ns) (hl : ns.length ≤ sizeLine) (hr : Room k callerA) (hm : mg nm = some (.ref fa))
    (F : ∀ base : Heap, K.In base → base.Ns mainGlobals mg → HasG P w K mg base nm k [x] sp)
    (prom : ∀ H : Hp, SqL K H a (ns.map V.int) → sp [.ref a] H (fun v _ => v = .bl true) fun _ _ _ => False) :
    codeAny (model P w) callerA (.call (.ref fa) ⟨[.ref a], []⟩) (fun r s' => r = .ok (.ret (.bool true)) ∧ OldK s₁.heap s'.heap ∧ s'.os = s₁.os ∧ AllBare s'.gens) s₁ := by
  have rv := vals_ints hi
  cases hk : K.lookup a with
  | some o =>
    have e := KX a o hk
    rw [ha] at e
    cases e
    refine end_from (H := fun _ => none) KX hns hb hbb hlim hg ha hr hm F (prom _ (.inr ⟨_, vs.toArray, _, hk, rfl, rfl, rfl, ?_, by simpa using rv⟩)) (fun b u z => by cases z) fun b u z => by cases z
    rw [List.size_toArray, hi.length]
    exact hl
  | none =>
    have at_a : ∀ b u, (fun b => if b = a then some (HO.frz { cls := .type "list", data := .seq vs.toArray } (.lst (ns.map V.int))) else none) b = some u → b = a ∧ u = HO.frz { cls := .type "list", data := .seq vs.toArray } (.lst (ns.map V.int)) := fun b u z => by
      by_cases y : b = a
      · have z2 := (if_pos y).symm.trans z
        cases z2
        exact ⟨y, rfl⟩
      · have z2 := (if_neg y).symm.trans z
        cases z2
    refine end_from (H := fun b => if b = a then some (.frz { cls := .type "list", data := .seq vs.toArray } (.lst (ns.map V.int))) else none) KX hns hb hbb hlim hg ha hr hm F (prom _ (.inl (.inr ⟨{ cls := .type "list", data := .seq vs.toArray }, if_pos rfl⟩))) (fun b u z => ?_) fun b u z => ?_
    · obtain ⟨h1, h2⟩ := at_a b u z
      exact ⟨h1, hk, _, _, h2⟩
    · obtain ⟨rfl, rfl⟩ := at_a b u z
      exact ⟨ha, by rw [List.length_map]; exact hl, vs, _, rv, ha⟩
end
theorem end_walk {l : PySem.W.OpenLaw} {n k : Nat} {q : Program} {loose : List Str} {XP : (Str → Option Value) → Heap → Prop} {YP : World → Heap → Prop} {d : DefRec} {K : Params → PySem.W.Frag} {x : Str} {sp : PySem.W.Frag → Addr → List Int → Sp}
    (hn : l.most = some n) (hn2 : n ≤ sizeLine) (hdf : d.params.defaults = []) (hr : Room k callerA) (hY : ∀ (w : World) (h : Heap), YP w h → (K w.params).In h)
    (F : ∀ (w : World) (mg : Str → Option Value) (h : Heap), (K w.params).In h → h.Ns mainGlobals mg → ∀ (a : Addr) (ns : List Int) (base : Heap), (K w.params).In base → base.Ns mainGlobals mg → HasG l.prog w (K w.params) mg base d.name k [x] (sp (K w.params) a ns))
    (prom : ∀ (K : PySem.W.Frag) (H : Hp) (a : Addr) (ns : List Int), ns.length ≤ n → SqL K H a (ns.map V.int) → sp K a ns [.ref a] H (fun v _ => v = .bl true) fun _ _ _ => False) :
    PySem.W.WalkO q loose XP YP l.row.toRowW d [] (fun f vs => PySem.call f vs) := by
  refine Att.attach_call hn hdf fun w s₀ s₁ mg mb fa o pm cd doc a vs ns G Y ho hd hcd hmg hobj hints hlen hg => ?_
  have KX := hY w _ Y
  exact end_call KX G.T.g G.T.b G.T.builtins G.T.nolimit hg hobj hints (Nat.le_trans hlen hn2) hr hmg (F w mg _ KX G.T.g a ns) fun H hS => prom _ H a ns hlen hS
theorem funAt_of {K : PySem.W.Frag} {h : Heap} {mg : Str → Option Value} {nm : Str} {st : Stmt} {ps : List Str} {f : Addr} {oc kV doc pm cd ct : Value} {od an : Option Addr} {sl : Array (Option Value)} (X : K.In h) (G : h.Ns mainGlobals mg)
    (a : PySem.W.nsIn K mainGlobals nm = some (some (.ref f))) (l : K.lookup f = some ⟨oc, od, .func (PySem.W.fnOf nm nm (defArgs st) (defBody st) (defScope st) .none kV doc pm an cd ct), sl⟩) (c : PySem.W.codeIn K cd nm = true) (k : PySem.W.keepIn K (.ref f) = true)
    (b : ∀ (kV doc pm : Value) (an : Option Addr) (cdv ct : Value) (us : List Value), us.length = ps.length → bindArgs (PySem.W.fnOf nm nm (defArgs st) (defBody st) (defScope st) .none kV doc pm an cdv ct) ⟨us, []⟩ = pure (ps.zip us)) : FunAt K mg nm st ps :=
  have F := fun_mk (st := st) l c k
  ⟨f, _, F, PySem.W.mg_of X G a, F.binds b⟩
end K01

namespace K01
open PySem PySem.Spec PyProof.Rows L2 Xg

/-! ### what the top has written -/
theorem all_mk {P : Program} {w : World} {K : PySem.W.Frag} {base h : Heap} {mg : Str → Option Value} (X : K.In h) (G : h.Ns mainGlobals mg) {a : Addr} {ns : List Int}
    {f1 f2 f3 f4 f5 f6 f7 f8 f9 f10 f11 f12 f13 f14 f15 f16 f17 f18 f19 f20 : Addr} {od1 an1 od2 an2 od3 an3 od4 an4 od5 an5 od6 an6 od7 an7 od8 an8 od9 an9 od10 an10 od11 an11 od12 an12 od13 an13 od14 an14 od15 an15 od16 an16 od17 an17 od18 an18 od19 an19 od20 an20 : Option Addr} {sl1 sl2 sl3 sl4 sl5 sl6 sl7 sl8 sl9 sl10 sl11 sl12 sl13 sl14 sl15 sl16 sl17 sl18 sl19 sl20 : Array (Option Value)} {oc1 kV1 dc1 pm1 cd1 ct1 oc2 kV2 dc2 pm2 cd2 ct2 oc3 kV3 dc3 pm3 cd3 ct3 oc4 kV4 dc4 pm4 cd4 ct4 oc5 kV5 dc5 pm5 cd5 ct5 oc6 kV6 dc6 pm6 cd6 ct6 oc7 kV7 dc7 pm7 cd7 ct7 oc8 kV8 dc8 pm8 cd8 ct8 oc9 kV9 dc9 pm9 cd9 ct9 oc10 kV10 dc10 pm10 cd10 ct10 oc11 kV11 dc11 pm11 cd11 ct11 oc12 kV12 dc12 pm12 cd12 ct12 oc13 kV13 dc13 pm13 cd13 ct13 oc14 kV14 dc14 pm14 cd14 ct14 oc15 kV15 dc15 pm15 cd15 ct15 oc16 kV16 dc16 pm16 cd16 ct16 oc17 kV17 dc17 pm17 cd17 ct17 oc18 kV18 dc18 pm18 cd18 ct18 oc19 kV19 dc19 pm19 cd19 ct19 oc20 kV20 dc20 pm20 cd20 ct20 : Value} {tk_GREATEST tk_MOST_CHARACTERS tk_MOST_IN_TEXT tk_MOST_IN_WORD tk_MOST_PLACES tk_MOST_WORDS : Tok}
    (a1 : PySem.W.nsIn K mainGlobals "is_number" = some (some (.ref f1))) (l1 : K.lookup f1 = some ⟨oc1, od1, .func (PySem.W.fnOf "is_number" "is_number" (defArgs s_is_number) (defBody s_is_number) (defScope s_is_number) .none kV1 dc1 pm1 an1 cd1 ct1), sl1⟩) (c1 : PySem.W.codeIn K cd1 "is_number" = true) (k1 : PySem.W.keepIn K (.ref f1) = true)
    (a2 : PySem.W.nsIn K mainGlobals "is_whole" = some (some (.ref f2))) (l2 : K.lookup f2 = some ⟨oc2, od2, .func (PySem.W.fnOf "is_whole" "is_whole" (defArgs s_is_whole) (defBody s_is_whole) (defScope s_is_whole) .none kV2 dc2 pm2 an2 cd2 ct2), sl2⟩) (c2 : PySem.W.codeIn K cd2 "is_whole" = true) (k2 : PySem.W.keepIn K (.ref f2) = true)
    (a3 : PySem.W.nsIn K mainGlobals "is_plain" = some (some (.ref f3))) (l3 : K.lookup f3 = some ⟨oc3, od3, .func (PySem.W.fnOf "is_plain" "is_plain" (defArgs s_is_plain) (defBody s_is_plain) (defScope s_is_plain) .none kV3 dc3 pm3 an3 cd3 ct3), sl3⟩) (c3 : PySem.W.codeIn K cd3 "is_plain" = true) (k3 : PySem.W.keepIn K (.ref f3) = true)
    (a4 : PySem.W.nsIn K mainGlobals "is_text" = some (some (.ref f4))) (l4 : K.lookup f4 = some ⟨oc4, od4, .func (PySem.W.fnOf "is_text" "is_text" (defArgs s_is_text) (defBody s_is_text) (defScope s_is_text) .none kV4 dc4 pm4 an4 cd4 ct4), sl4⟩) (c4 : PySem.W.codeIn K cd4 "is_text" = true) (k4 : PySem.W.keepIn K (.ref f4) = true)
    (a5 : PySem.W.nsIn K mainGlobals "are_different" = some (some (.ref f5))) (l5 : K.lookup f5 = some ⟨oc5, od5, .func (PySem.W.fnOf "are_different" "are_different" (defArgs s_are_different) (defBody s_are_different) (defScope s_are_different) .none kV5 dc5 pm5 an5 cd5 ct5), sl5⟩) (c5 : PySem.W.codeIn K cd5 "are_different" = true) (k5 : PySem.W.keepIn K (.ref f5) = true)
    (a6 : PySem.W.nsIn K mainGlobals "are_bounds" = some (some (.ref f6))) (l6 : K.lookup f6 = some ⟨oc6, od6, .func (PySem.W.fnOf "are_bounds" "are_bounds" (defArgs s_are_bounds) (defBody s_are_bounds) (defScope s_are_bounds) .none kV6 dc6 pm6 an6 cd6 ct6), sl6⟩) (c6 : PySem.W.codeIn K cd6 "are_bounds" = true) (k6 : PySem.W.keepIn K (.ref f6) = true)
    (a7 : PySem.W.nsIn K mainGlobals "is_word" = some (some (.ref f7))) (l7 : K.lookup f7 = some ⟨oc7, od7, .func (PySem.W.fnOf "is_word" "is_word" (defArgs s_is_word) (defBody s_is_word) (defScope s_is_word) .none kV7 dc7 pm7 an7 cd7 ct7), sl7⟩) (c7 : PySem.W.codeIn K cd7 "is_word" = true) (k7 : PySem.W.keepIn K (.ref f7) = true)
    (a8 : PySem.W.nsIn K mainGlobals "are_words" = some (some (.ref f8))) (l8 : K.lookup f8 = some ⟨oc8, od8, .func (PySem.W.fnOf "are_words" "are_words" (defArgs s_are_words) (defBody s_are_words) (defScope s_are_words) .none kV8 dc8 pm8 an8 cd8 ct8), sl8⟩) (c8 : PySem.W.codeIn K cd8 "are_words" = true) (k8 : PySem.W.keepIn K (.ref f8) = true)
    (a9 : PySem.W.nsIn K mainGlobals "is_kind" = some (some (.ref f9))) (l9 : K.lookup f9 = some ⟨oc9, od9, .func (PySem.W.fnOf "is_kind" "is_kind" (defArgs s_is_kind) (defBody s_is_kind) (defScope s_is_kind) .none kV9 dc9 pm9 an9 cd9 ct9), sl9⟩) (c9 : PySem.W.codeIn K cd9 "is_kind" = true) (k9 : PySem.W.keepIn K (.ref f9) = true)
    (a10 : PySem.W.nsIn K mainGlobals "_law_begun" = some (some (.ref f10))) (l10 : K.lookup f10 = some ⟨oc10, od10, .func (PySem.W.fnOf "_law_begun" "_law_begun" (defArgs s__law_begun) (defBody s__law_begun) (defScope s__law_begun) .none kV10 dc10 pm10 an10 cd10 ct10), sl10⟩) (c10 : PySem.W.codeIn K cd10 "_law_begun" = true) (k10 : PySem.W.keepIn K (.ref f10) = true)
    (a11 : PySem.W.nsIn K mainGlobals "_law_next" = some (some (.ref f11))) (l11 : K.lookup f11 = some ⟨oc11, od11, .func (PySem.W.fnOf "_law_next" "_law_next" (defArgs s__law_next) (defBody s__law_next) (defScope s__law_next) .none kV11 dc11 pm11 an11 cd11 ct11), sl11⟩) (c11 : PySem.W.codeIn K cd11 "_law_next" = true) (k11 : PySem.W.keepIn K (.ref f11) = true)
    (a12 : PySem.W.nsIn K mainGlobals "_law_of" = some (some (.ref f12))) (l12 : K.lookup f12 = some ⟨oc12, od12, .func (PySem.W.fnOf "_law_of" "_law_of" (defArgs s__law_of) (defBody s__law_of) (defScope s__law_of) .none kV12 dc12 pm12 an12 cd12 ct12), sl12⟩) (c12 : PySem.W.codeIn K cd12 "_law_of" = true) (k12 : PySem.W.keepIn K (.ref f12) = true)
    (a13 : PySem.W.nsIn K mainGlobals "_law_is_whole" = some (some (.ref f13))) (l13 : K.lookup f13 = some ⟨oc13, od13, .func (PySem.W.fnOf "_law_is_whole" "_law_is_whole" (defArgs s__law_is_whole) (defBody s__law_is_whole) (defScope s__law_is_whole) .none kV13 dc13 pm13 an13 cd13 ct13), sl13⟩) (c13 : PySem.W.codeIn K cd13 "_law_is_whole" = true) (k13 : PySem.W.keepIn K (.ref f13) = true)
    (a14 : PySem.W.nsIn K mainGlobals "_law_is_text" = some (some (.ref f14))) (l14 : K.lookup f14 = some ⟨oc14, od14, .func (PySem.W.fnOf "_law_is_text" "_law_is_text" (defArgs s__law_is_text) (defBody s__law_is_text) (defScope s__law_is_text) .none kV14 dc14 pm14 an14 cd14 ct14), sl14⟩) (c14 : PySem.W.codeIn K cd14 "_law_is_text" = true) (k14 : PySem.W.keepIn K (.ref f14) = true)
    (a15 : PySem.W.nsIn K mainGlobals "_law_is_kind" = some (some (.ref f15))) (l15 : K.lookup f15 = some ⟨oc15, od15, .func (PySem.W.fnOf "_law_is_kind" "_law_is_kind" (defArgs s__law_is_kind) (defBody s__law_is_kind) (defScope s__law_is_kind) .none kV15 dc15 pm15 an15 cd15 ct15), sl15⟩) (c15 : PySem.W.codeIn K cd15 "_law_is_kind" = true) (k15 : PySem.W.keepIn K (.ref f15) = true)
    (a16 : PySem.W.nsIn K mainGlobals "_law_kind" = some (some (.ref f16))) (l16 : K.lookup f16 = some ⟨oc16, od16, .func (PySem.W.fnOf "_law_kind" "_law_kind" (defArgs s__law_kind) (defBody s__law_kind) (defScope s__law_kind) .none kV16 dc16 pm16 an16 cd16 ct16), sl16⟩) (c16 : PySem.W.codeIn K cd16 "_law_kind" = true) (k16 : PySem.W.keepIn K (.ref f16) = true)
    (a17 : PySem.W.nsIn K mainGlobals "_law_odd" = some (some (.ref f17))) (l17 : K.lookup f17 = some ⟨oc17, od17, .func (PySem.W.fnOf "_law_odd" "_law_odd" (defArgs s__law_odd) (defBody s__law_odd) (defScope s__law_odd) .none kV17 dc17 pm17 an17 cd17 ct17), sl17⟩) (c17 : PySem.W.codeIn K cd17 "_law_odd" = true) (k17 : PySem.W.keepIn K (.ref f17) = true)
    (a18 : PySem.W.nsIn K mainGlobals "_law_bent" = some (some (.ref f18))) (l18 : K.lookup f18 = some ⟨oc18, od18, .func (PySem.W.fnOf "_law_bent" "_law_bent" (defArgs s__law_bent) (defBody s__law_bent) (defScope s__law_bent) .none kV18 dc18 pm18 an18 cd18 ct18), sl18⟩) (c18 : PySem.W.codeIn K cd18 "_law_bent" = true) (k18 : PySem.W.keepIn K (.ref f18) = true)
    (a19 : PySem.W.nsIn K mainGlobals "_law_bounds_right" = some (some (.ref f19))) (l19 : K.lookup f19 = some ⟨oc19, od19, .func (PySem.W.fnOf "_law_bounds_right" "_law_bounds_right" (defArgs s__law_bounds_right) (defBody s__law_bounds_right) (defScope s__law_bounds_right) .none kV19 dc19 pm19 an19 cd19 ct19), sl19⟩) (c19 : PySem.W.codeIn K cd19 "_law_bounds_right" = true) (k19 : PySem.W.keepIn K (.ref f19) = true)
    (a20 : PySem.W.nsIn K mainGlobals "law" = some (some (.ref f20))) (l20 : K.lookup f20 = some ⟨oc20, od20, .func (PySem.W.fnOf "law" "law" (defArgs s_law) (defBody s_law) (defScope s_law) .none kV20 dc20 pm20 an20 cd20 ct20), sl20⟩) (c20 : PySem.W.codeIn K cd20 "law" = true) (k20 : PySem.W.keepIn K (.ref f20) = true)
    (z_all : PySem.W.nsIn K mainGlobals "all" = some none)
    (z_bool : PySem.W.nsIn K mainGlobals "bool" = some none)
    (z_int : PySem.W.nsIn K mainGlobals "int" = some none)
    (z_isinstance : PySem.W.nsIn K mainGlobals "isinstance" = some none)
    (z_len : PySem.W.nsIn K mainGlobals "len" = some none)
    (z_list : PySem.W.nsIn K mainGlobals "list" = some none)
    (z_min : PySem.W.nsIn K mainGlobals "min" = some none)
    (z_range : PySem.W.nsIn K mainGlobals "range" = some none)
    (z_repr : PySem.W.nsIn K mainGlobals "repr" = some none)
    (z_set : PySem.W.nsIn K mainGlobals "set" = some none)
    (z_sorted : PySem.W.nsIn K mainGlobals "sorted" = some none)
    (z_str : PySem.W.nsIn K mainGlobals "str" = some none)
    (z_tuple : PySem.W.nsIn K mainGlobals "tuple" = some none)
    (c_GREATEST : PySem.W.nsIn K mainGlobals "GREATEST" = some (some (.int 999999999999999999 tk_GREATEST)))
    (c_MOST_CHARACTERS : PySem.W.nsIn K mainGlobals "MOST_CHARACTERS" = some (some (.int 20000 tk_MOST_CHARACTERS)))
    (c_MOST_IN_TEXT : PySem.W.nsIn K mainGlobals "MOST_IN_TEXT" = some (some (.int 1000 tk_MOST_IN_TEXT)))
    (c_MOST_IN_WORD : PySem.W.nsIn K mainGlobals "MOST_IN_WORD" = some (some (.int 20 tk_MOST_IN_WORD)))
    (c_MOST_PLACES : PySem.W.nsIn K mainGlobals "MOST_PLACES" = some (some (.int 9 tk_MOST_PLACES)))
    (c_MOST_WORDS : PySem.W.nsIn K mainGlobals "MOST_WORDS" = some (some (.int 20 tk_MOST_WORDS))) :
    HasG P w K mg base "law" 10 ["_law_cells"] (sp_law (K := K) (c := a) (ns := ns)) := by
  have T : Tx K mg := ⟨PySem.W.mg_none_of X G z_all, PySem.W.mg_none_of X G z_bool, PySem.W.mg_none_of X G z_int, PySem.W.mg_none_of X G z_isinstance, PySem.W.mg_none_of X G z_len, PySem.W.mg_none_of X G z_list, PySem.W.mg_none_of X G z_min, PySem.W.mg_none_of X G z_range, PySem.W.mg_none_of X G z_repr, PySem.W.mg_none_of X G z_set, PySem.W.mg_none_of X G z_sorted, PySem.W.mg_none_of X G z_str, PySem.W.mg_none_of X G z_tuple, ⟨_, PySem.W.mg_of X G c_GREATEST⟩, ⟨_, PySem.W.mg_of X G c_MOST_CHARACTERS⟩, ⟨_, PySem.W.mg_of X G c_MOST_IN_TEXT⟩, ⟨_, PySem.W.mg_of X G c_MOST_IN_WORD⟩, ⟨_, PySem.W.mg_of X G c_MOST_PLACES⟩, ⟨_, PySem.W.mg_of X G c_MOST_WORDS⟩⟩
  have F_is_number : FunAt K mg "is_number" s_is_number ["value"] := funAt_of X G a1 l1 c1 k1 fun _ _ _ _ _ _ us hl => match us, hl with | [_], _ => rfl
  have F_is_whole : FunAt K mg "is_whole" s_is_whole ["value", "low", "high"] := funAt_of X G a2 l2 c2 k2 fun _ _ _ _ _ _ us hl => match us, hl with | [_, _, _], _ => rfl
  have F_is_plain : FunAt K mg "is_plain" s_is_plain ["string"] := funAt_of X G a3 l3 c3 k3 fun _ _ _ _ _ _ us hl => match us, hl with | [_], _ => rfl
  have F_is_text : FunAt K mg "is_text" s_is_text ["value"] := funAt_of X G a4 l4 c4 k4 fun _ _ _ _ _ _ us hl => match us, hl with | [_], _ => rfl
  have F_are_different : FunAt K mg "are_different" s_are_different ["strings"] := funAt_of X G a5 l5 c5 k5 fun _ _ _ _ _ _ us hl => match us, hl with | [_], _ => rfl
  have F_are_bounds : FunAt K mg "are_bounds" s_are_bounds ["low", "high"] := funAt_of X G a6 l6 c6 k6 fun _ _ _ _ _ _ us hl => match us, hl with | [_, _], _ => rfl
  have F_is_word : FunAt K mg "is_word" s_is_word ["value"] := funAt_of X G a7 l7 c7 k7 fun _ _ _ _ _ _ us hl => match us, hl with | [_], _ => rfl
  have F_are_words : FunAt K mg "are_words" s_are_words ["value"] := funAt_of X G a8 l8 c8 k8 fun _ _ _ _ _ _ us hl => match us, hl with | [_], _ => rfl
  have F_is_kind : FunAt K mg "is_kind" s_is_kind ["value"] := funAt_of X G a9 l9 c9 k9 fun _ _ _ _ _ _ us hl => match us, hl with | [_], _ => rfl
  have F__law_begun : FunAt K mg "_law_begun" s__law_begun ["_law_cells"] := funAt_of X G a10 l10 c10 k10 fun _ _ _ _ _ _ us hl => match us, hl with | [_], _ => rfl
  have F__law_next : FunAt K mg "_law_next" s__law_next ["_law_m", "_law_total"] := funAt_of X G a11 l11 c11 k11 fun _ _ _ _ _ _ us hl => match us, hl with | [_, _], _ => rfl
  have F__law_of : FunAt K mg "_law_of" s__law_of ["_law_m", "_law_items"] := funAt_of X G a12 l12 c12 k12 fun _ _ _ _ _ _ us hl => match us, hl with | [_, _], _ => rfl
  have F__law_is_whole : FunAt K mg "_law_is_whole" s__law_is_whole ["_law_thing"] := funAt_of X G a13 l13 c13 k13 fun _ _ _ _ _ _ us hl => match us, hl with | [_], _ => rfl
  have F__law_is_text : FunAt K mg "_law_is_text" s__law_is_text ["_law_thing", "_law_least", "_law_most"] := funAt_of X G a14 l14 c14 k14 fun _ _ _ _ _ _ us hl => match us, hl with | [_, _, _], _ => rfl
  have F__law_is_kind : FunAt K mg "_law_is_kind" s__law_is_kind ["_law_thing"] := funAt_of X G a15 l15 c15 k15 fun _ _ _ _ _ _ us hl => match us, hl with | [_], _ => rfl
  have F__law_kind : FunAt K mg "_law_kind" s__law_kind ["_law_m"] := funAt_of X G a16 l16 c16 k16 fun _ _ _ _ _ _ us hl => match us, hl with | [_], _ => rfl
  have F__law_odd : FunAt K mg "_law_odd" s__law_odd ["_law_m"] := funAt_of X G a17 l17 c17 k17 fun _ _ _ _ _ _ us hl => match us, hl with | [_], _ => rfl
  have F__law_bent : FunAt K mg "_law_bent" s__law_bent ["_law_m", "_law_thing"] := funAt_of X G a18 l18 c18 k18 fun _ _ _ _ _ _ us hl => match us, hl with | [_, _], _ => rfl
  have F__law_bounds_right : FunAt K mg "_law_bounds_right" s__law_bounds_right [] := funAt_of X G a19 l19 c19 k19 fun _ _ _ _ _ _ us hl => match us, hl with | [], _ => rfl
  have F_law : FunAt K mg "law" s_law ["_law_cells"] := funAt_of X G a20 l20 c20 k20 fun _ _ _ _ _ _ us hl => match us, hl with | [_], _ => rfl
  have D_is_number := ok_is_number (P := P) (w := w) (base := base) T F_is_number
  have D_is_plain := ok_is_plain (P := P) (w := w) (base := base) T F_is_plain
  have D_is_whole := ok_is_whole T F_is_whole D_is_number
  have D_is_text := ok_is_text T F_is_text D_is_plain
  have D_are_different := ok_are_different (P := P) (w := w) (base := base) T F_are_different
  have D_are_bounds := ok_are_bounds T F_are_bounds D_is_whole
  have D_is_word := ok_is_word T F_is_word D_is_text
  have D_are_words := ok_are_words T F_are_words D_is_word D_are_different
  have D_is_kind := ok_is_kind T F_is_kind D_is_whole D_are_bounds D_are_words
  have D__law_begun := ok_begun (P := P) (w := w) (base := base) (c := a) (ns := ns) T F__law_begun
  have D__law_next := ok_next (P := P) (w := w) (base := base) (c := a) (ns := ns) T F__law_next
  have D__law_of := ok_of T F__law_of D__law_next
  have D__law_is_whole := ok_whole2 (P := P) (w := w) (base := base) T F__law_is_whole
  have D__law_is_text := ok_text2 (P := P) (w := w) (base := base) T F__law_is_text
  have D__law_is_kind := ok_kind2 T F__law_is_kind D__law_is_whole D__law_is_text
  have D__law_odd := ok_odd T F__law_odd D__law_of
  have D__law_kind := ok_kind T F__law_kind D__law_of D__law_next
  have D__law_bent := ok_bent T F__law_bent D__law_of D__law_next D__law_odd 5
  have D__law_bounds_right := ok_right T F__law_bounds_right D_is_kind
  exact ok_law T F_law D_is_kind D__law_is_kind D__law_begun D__law_kind D__law_bent D__law_bounds_right
end K01

open PySem PySem.W PyProof.Rows in
set_option maxRecDepth 100000 in
set_option maxHeartbeats 0 in
theorem PySem.Challenge.cw_bulkload_k01_kinds_looked_at_holds : PySem.Challenge.rw_bulkload_k01_kinds_looked_at.Holds := by
  w_on; o_law; k_head; (case hw => w_witness2)
  k_fill
  refine K01.end_walk (l := PySem.Challenge.rw_bulkload_k01_kinds_looked_at) (n := 63) (k := 10) (x := "_law_cells") (sp := fun K a ns => K01.sp_law (K := K) (c := a) (ns := ns)) rfl (by decide) rfl ⟨rfl, by decide, by decide⟩ (fun w h Y => PySem.W.kIn_of Y) ?F (fun K H a ns hl hS => ⟨rfl, hS, hl, fun _ => rfl⟩)
  case F =>
    intro w mg h KX G a ns base _ _
    refine' K01.all_mk KX G ?a1 ?l1 ?c1 ?k1 ?a2 ?l2 ?c2 ?k2 ?a3 ?l3 ?c3 ?k3 ?a4 ?l4 ?c4 ?k4 ?a5 ?l5 ?c5 ?k5 ?a6 ?l6 ?c6 ?k6 ?a7 ?l7 ?c7 ?k7 ?a8 ?l8 ?c8 ?k8 ?a9 ?l9 ?c9 ?k9 ?a10 ?l10 ?c10 ?k10 ?a11 ?l11 ?c11 ?k11 ?a12 ?l12 ?c12 ?k12 ?a13 ?l13 ?c13 ?k13 ?a14 ?l14 ?c14 ?k14 ?a15 ?l15 ?c15 ?k15 ?a16 ?l16 ?c16 ?k16 ?a17 ?l17 ?c17 ?k17 ?a18 ?l18 ?c18 ?k18 ?a19 ?l19 ?c19 ?k19 ?a20 ?l20 ?c20 ?k20 ?z_all ?z_bool ?z_int ?z_isinstance ?z_len ?z_list ?z_min ?z_range ?z_repr ?z_set ?z_sorted ?z_str ?z_tuple ?c_GREATEST ?c_MOST_CHARACTERS ?c_MOST_IN_TEXT ?c_MOST_IN_WORD ?c_MOST_PLACES ?c_MOST_WORDS
    (case a1 => k_is)
    (case l1 => k_is)
    (case c1 => k_is)
    (case k1 => k_is)
    (case a2 => k_is)
    (case l2 => k_is)
    (case c2 => k_is)
    (case k2 => k_is)
    (case a3 => k_is)
    (case l3 => k_is)
    (case c3 => k_is)
    (case k3 => k_is)
    (case a4 => k_is)
    (case l4 => k_is)
    (case c4 => k_is)
    (case k4 => k_is)
    (case a5 => k_is)
    (case l5 => k_is)
    (case c5 => k_is)
    (case k5 => k_is)
    (case a6 => k_is)
    (case l6 => k_is)
    (case c6 => k_is)
    (case k6 => k_is)
    (case a7 => k_is)
    (case l7 => k_is)
    (case c7 => k_is)
    (case k7 => k_is)
    (case a8 => k_is)
    (case l8 => k_is)
    (case c8 => k_is)
    (case k8 => k_is)
    (case a9 => k_is)
    (case l9 => k_is)
    (case c9 => k_is)
    (case k9 => k_is)
    (case a10 => k_is)
    (case l10 => k_is)
    (case c10 => k_is)
    (case k10 => k_is)
    (case a11 => k_is)
    (case l11 => k_is)
    (case c11 => k_is)
    (case k11 => k_is)
    (case a12 => k_is)
    (case l12 => k_is)
    (case c12 => k_is)
    (case k12 => k_is)
    (case a13 => k_is)
    (case l13 => k_is)
    (case c13 => k_is)
    (case k13 => k_is)
    (case a14 => k_is)
    (case l14 => k_is)
    (case c14 => k_is)
    (case k14 => k_is)
    (case a15 => k_is)
    (case l15 => k_is)
    (case c15 => k_is)
    (case k15 => k_is)
    (case a16 => k_is)
    (case l16 => k_is)
    (case c16 => k_is)
    (case k16 => k_is)
    (case a17 => k_is)
    (case l17 => k_is)
    (case c17 => k_is)
    (case k17 => k_is)
    (case a18 => k_is)
    (case l18 => k_is)
    (case c18 => k_is)
    (case k18 => k_is)
    (case a19 => k_is)
    (case l19 => k_is)
    (case c19 => k_is)
    (case k19 => k_is)
    (case a20 => k_is)
    (case l20 => k_is)
    (case c20 => k_is)
    (case k20 => k_is)
    (case z_all => k_is)
    (case z_bool => k_is)
    (case z_int => k_is)
    (case z_isinstance => k_is)
    (case z_len => k_is)
    (case z_list => k_is)
    (case z_min => k_is)
    (case z_range => k_is)
    (case z_repr => k_is)
    (case z_set => k_is)
    (case z_sorted => k_is)
    (case z_str => k_is)
    (case z_tuple => k_is)
    (case c_GREATEST => k_is)
    (case c_MOST_CHARACTERS => k_is)
    (case c_MOST_IN_TEXT => k_is)
    (case c_MOST_IN_WORD => k_is)
    (case c_MOST_PLACES => k_is)
    (case c_MOST_WORDS => k_is)
