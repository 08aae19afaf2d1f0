import PyProof.Rows.All
import Wide.All
import OpenK.AllK
import Wide.FinOn
import HandS.ClsMeth
import HandS.Codes
import HandS.Deep
import HandS.ExcField
import HandS.ExcInit
import HandS.ExcIs
import HandS.ForMost
import HandS.IsInst
import HandS.Iter
import HandS.IterVal
import HandS.NoneIn
import HandS.OwnEq
import HandS.Property
import HandS.RaiseMore
import HandS.StrMore
import HandS.Text
import HandS.TupLe
import HandS.Wide
import KE.GoesMore
import KE.GoesZip
import KE.KCallOwn
import KE.KExcIs
import KE.KOwnIter
import PyProof.ReprLen
import PySem.Challenge.RW_onelongturn_k23_curves_made
set_option Elab.async false
set_option linter.all false
set_option maxRecDepth 100000
set_option maxHeartbeats 2000000
set_option Elab.async false
set_option linter.all false
set_option maxRecDepth 100000
set_option maxHeartbeats 1000000
/-! Operators of own classes: an own class's special method at the left or the right of a sign. -/
namespace OL
open PySem PySem.W PySem.Calls PyProof.Rows Builtin

section
variable {prog : Program} {w : World} {A : Around} {E : Value → Shared → Prop} {s : Shared} {K : Frag} {x C L f : Addr} {h₀ : Heap} {m : Str → Option Value} {ox : Obj} {od : Option Obj}

/-- a class with the reflected method alone fills the slot -/
theorem fillsR_K {M : Model} {h : Heap} {nm : String} {cd : ClassData} {rest : List Value} (X : K.In h) (hc : clsIn K C = some cd) (hm : cd.mro = .ref C :: rest) (h0 : findIn K (.ref C) (PySem.dunder nm) = some none)
    (hs : findIn K (.ref C) (dunderR nm) = some (some (.ref f))) : Looks M h (fillsNumberSlot (.ref C) nm) true := by
  intro A Q E s k q
  unfold fillsNumberSlot
  refine wpAny_bind ((looks_clsIn X hc).andThen (f := fun cd => pure cd.mro) .now A _ E s k ?_)
  rw [hm, List.anyM_cons]
  refine wpAny_bind ?_
  show wpAny M A (List.anyM _ [PySem.dunder nm, dunderR nm]) _ _ _
  rw [List.anyM_cons]
  refine wpAny_bind (wpAny_bind (looks_findIn X h0 A _ E s k ?_))
  dsimp only
  refine wpAny_pure ?_
  rw [if_neg (by decide)]
  rw [List.anyM_cons]
  refine wpAny_bind (wpAny_bind (looks_findIn X hs A _ E s k ?_))
  dsimp only
  rw [if_pos (show (!ownNameWrapper (.ref f) (dunderR nm)) = true from rfl)]
  refine wpAny_pure ?_
  rw [if_pos rfl]
  refine wpAny_pure ?_
  rw [if_pos rfl]
  exact wpAny_pure q

/-- a op instance, a of a built-in type T that declines: the instance's reflected method answers -/
theorem rbinop1_K {nm : String} {a : Value} {T idl : String} {Q : Option Value → Shared → Prop} (F : Fr h₀ L s.heap m) (X₀ : K.In h₀) (I : InstAt s.heap x ox C od) (hc : selfFirst K C = true)
    (hfill : ∀ (cd : ClassData) (rest : List Value), clsIn K C = some cd → cd.mro = .ref C :: rest → Looks (model prog w) s.heap (fillsNumberSlot (.ref C) nm) true)
    (ha : s.TypeIs a T) (hfT : fillsNumberSlot (.type T) nm = pure true) (hsub : subIn K (.ref C) (.type T) = some false) (hl : Slot T (PySem.dunder nm) idl)
    (hs : findIn K (.ref C) (dunderR nm) = some (some (.ref f))) (hf : isFn K (.ref f) = true)
    (h : wpAny (model prog w) A (call (.builtin idl) [a, .ref x]) (fun v s₁ => v = .notImplemented ∧ s₁.heap = s.heap ∧ wpAny (model prog w) A (call (.ref f) [.ref x, a]) (PySem.W.CmpBack fun v => Q (some v)) E s₁) E s) :
    wpAny (model prog w) A (binaryOp1 nm a (.ref x)) Q E s := by
  have X := X₀.keeps F.keep
  obtain ⟨cd, hcd, hm⟩ := any_some hc
  obtain ⟨rest, hm⟩ : ∃ rest, cd.mro = .ref C :: rest := by
    cases q : cd.mro with
    | nil => rw [q] at hm; cases hm
    | cons a r => rw [q] at hm; exact ⟨r, by rw [List.head?_cons] at hm; cases (beq_iff_eq.mp hm); rfl⟩
  simp only [binaryOp1]
  refine wpAny_bind (wpAny_typeOf ha (wpAny_bind (I.type.here (wpAny_bind (wpAny_of_eq hfT ?_)))))
  have hne : (Value.type T == Value.ref C) = false := by simp
  simp only [hne, Bool.false_eq_true, if_false]
  refine wpAny_bind ((hfill cd rest hcd hm).here ?_)
  simp only [Bool.and_self, if_true]
  refine wpAny_bind ((looks_subIn X hsub).here ?_)
  have hpy : numberSlotInPython (.type T) nm = pure false := rfl
  simp only [Bool.false_eq_true, if_false, pure_bind, Bool.not_false, Bool.and_self, if_true, hpy]
  simp only [tryMethod]
  refine wpAny_bind (wpAny_bind (wpAny_callSpecial?_slot ha hl (wpAny_mono h (fun v s₁ h₁ => ?_) fun _ _ x => x)))
  obtain ⟨rfl, hh, hq⟩ := h₁
  have X1 : K.In s₁.heap := by rw [hh]; exact X
  have I1 : InstAt s₁.heap x ox C od := by rw [hh]; exact I
  refine wpAny_pure (wpAny_bind (wpAny_bind (special_fn X1 I1 hs (beq_iff_eq.mp hf) (wpAny_mono hq (fun v' s₂ h₂ => ?_) fun _ _ x => x))))
  cases v' <;> first | exact h₂.elim | exact wpAny_pure (wpAny_bind (wpAny_rule (wpAny_pure h₂)))
theorem rbinop_K {op : Operator} {a : Value} {T idl : String} {Q : Value → Shared → Prop} (F : Fr h₀ L s.heap m) (X₀ : K.In h₀) (I : InstAt s.heap x ox C od) (hc : selfFirst K C = true)
    (hfill : ∀ (cd : ClassData) (rest : List Value), clsIn K C = some cd → cd.mro = .ref C :: rest → Looks (model prog w) s.heap (fillsNumberSlot (.ref C) op.info.2) true)
    (ha : s.TypeIs a T) (hfT : fillsNumberSlot (.type T) op.info.2 = pure true) (hsub : subIn K (.ref C) (.type T) = some false) (hl : Slot T (PySem.dunder op.info.2) idl)
    (hs : findIn K (.ref C) (dunderR op.info.2) = some (some (.ref f))) (hf : isFn K (.ref f) = true)
    (h : wpAny (model prog w) A (call (.builtin idl) [a, .ref x]) (fun v s₁ => v = .notImplemented ∧ s₁.heap = s.heap ∧ wpAny (model prog w) A (call (.ref f) [.ref x, a]) (PySem.W.CmpBack Q) E s₁) E s) :
    wpAny (model prog w) A (binaryOp op a (.ref x)) Q E s := by
  rcases hi : op.info with ⟨sym, nm⟩
  rw [hi] at hfill hfT hl hs
  simp only [binaryOp, hi]
  refine wpAny_holding ?_
  refine wpAny_bind (rbinop1_K F X₀ I hc hfill ha hfT hsub hl hs hf (wpAny_mono h (fun v s₁ h₁ => ⟨h₁.1, h₁.2.1, wpAny_mono h₁.2.2 (fun v' s₂ h₂ => ?_) fun _ _ x => x⟩) fun _ _ x => x))
  cases v' <;> first | exact h₂.elim | exact wpAny_pure h₂
/-- an int slot declines an instance of an own class -/
theorem int_mod_inst {i : Int} {t : Tok} {Q : Value → Shared → Prop} (I : InstAt s.heap x ox C od) (hd : ox.data = .plain) (h : ∀ tk, Q .notImplemented { s with toks := tk }) :
    wpAny (model prog w) A (call (.builtin "int.__mod__") [.int i t, .ref x]) Q E s := by
  refine wpAny_call (codeAny_call_builtin F.slot_int_mod.plain F.entry_int_mod (F.slot_int_mod.check _ _ _ _ _ _ _ _ (typeIs_int s i t) (F.args_int_mod_2 _ _) ?_))
  obtain ⟨hp, g, d, tk, os⟩ := s
  obtain ⟨oc, odd, data, sl⟩ := ox
  simp only at hd
  subst hd
  have hl : hp.get? x = some _ := I.at_
  wp_walk
  exact h tk
theorem int_floordiv_inst {i : Int} {t : Tok} {Q : Value → Shared → Prop} (I : InstAt s.heap x ox C od) (hd : ox.data = .plain) (h : ∀ tk, Q .notImplemented { s with toks := tk }) :
    wpAny (model prog w) A (call (.builtin "int.__floordiv__") [.int i t, .ref x]) Q E s := by
  refine wpAny_call (codeAny_call_builtin F.slot_int_floordiv.plain F.entry_int_floordiv (F.slot_int_floordiv.check _ _ _ _ _ _ _ _ (typeIs_int s i t) (F.args_int_floordiv_2 _ _) ?_))
  obtain ⟨hp, g, d, tk, os⟩ := s
  obtain ⟨oc, odd, data, sl⟩ := ox
  simp only at hd
  subst hd
  have hl : hp.get? x = some _ := I.at_
  wp_walk
  exact h tk
theorem int_mul_inst {i : Int} {t : Tok} {Q : Value → Shared → Prop} (I : InstAt s.heap x ox C od) (hd : ox.data = .plain) (h : ∀ tk, Q .notImplemented { s with toks := tk }) :
    wpAny (model prog w) A (call (.builtin "int.__mul__") [.int i t, .ref x]) Q E s := by
  refine wpAny_call (codeAny_call_builtin F.slot_int_mul.plain F.entry_int_mul (F.slot_int_mul.check _ _ _ _ _ _ _ _ (typeIs_int s i t) (F.args_int_mul_2 _ _) ?_))
  obtain ⟨hp, g, d, tk, os⟩ := s
  obtain ⟨oc, odd, data, sl⟩ := ox
  simp only at hd
  subst hd
  have hl : hp.get? x = some _ := I.at_
  wp_walk
  exact h tk
/-- callSpecialIfBound? where the class's lookup finds a built-in slot -/
theorem ifBoundB_K {M : Model} {name : Str} {id : String} {args : List Value} {Q : Option Value → Shared → Prop} (X : K.In s.heap) (I : InstAt s.heap x ox C od) (hs : findIn K (.ref C) name = some (some (.builtin id)))
    (hb : ∀ self, bindSpecial (.builtin id) self = pure (.builtin id, [self]))
    (h : wpAny M A (call (.builtin id) (.ref x :: args)) (fun v => Q (some v)) E s) : wpAny M A (callSpecialIfBound? (.ref x) name args) Q E s := by
  simp only [callSpecialIfBound?, bindSpecialIfBound?]
  refine wpAny_holding (wpAny_bind (wpAny_bind (wpAny_bind (I.type.here ((looks_findIn X hs).here ?_)))))
  refine wpAny_bind (wpAny_askSetting (wpAny_ite ?_))
  have fin : wpAny M A (call (.builtin id) ([.ref x] ++ args) >>= fun v => pure (some v)) Q E s := wpAny_bind (wpAny_mono h (fun v s' h' => wpAny_pure h') fun _ _ h' => h')
  simp only [hb]
  split
  · exact wpAny_bind (wpAny_pure (wpAny_pure (by exact fin)))
  · exact wpAny_tryCatch (wpAny_bind (wpAny_pure (wpAny_pure (by exact fin))))
/-- x != b by an own __eq__ (no own __ne__) -/
theorem ne_K {b tb : Value} {Q : Value → Shared → Prop} (hu : A.units + 1 < cLine) (F : Fr h₀ L s.heap m) (X₀ : K.In h₀) (I : InstAt s.heap x ox C od) (hb : Looks (model prog w) s.heap (typeOf b) tb) (hn : notFirst K C tb = true)
    (hne : findIn K (.ref C) "__ne__" = some (some (.builtin "object.__ne__"))) (hmr : mroIn K C (.type "object") = some true)
    (hs : findIn K (.ref C) "__eq__" = some (some (.ref f))) (hf : isFn K (.ref f) = true)
    (h : wpAny (model prog w) A.in1 (call (.ref f) [.ref x, b]) (fun v s' => ∃ r, v = .bool r ∧ Q (.bool (!r)) s') E s) : wpAny (model prog w) A (richCompare .NotEq (.ref x) b) Q E s := by
  have X := X₀.keeps F.keep
  have sub : Looks (model prog w) s.heap (isInstance (.ref x) (.type "object")) true := I.type.andThen (looks_mroIn X hmr)
  have one : wpAny (model prog w) A (tryCompare (.ref x) (cmpInfo .NotEq).2.1 b) (fun r s' => ∃ v, r = some v ∧ Q v s') E s := by
    unfold tryCompare
    refine wpAny_bind (ifBoundB_K X I hne PySem.F.slot_object_ne.bind (wpAny_call (codeAny_call_builtin PySem.F.slot_object_ne.plain PySem.F.cmpEntry_ne
      (check_slot PySem.F.cmpKind_ne PySem.F.cmpSplit_ne sub (PySem.F.cmpArgs_ne _ _) ?_))))
    unfold Builtin.«object.__ne__»
    have hu' : A.in1.units < cLine := hu
    repeat (first
      | with_reducible refine wpAny_cRoomFor hu' ?_
      | (refine wpAny_bind (m := callSpecialIfBound? (.ref x) (Str.ofString "__eq__") [b])
          (ifBound_K X I hs hf (wpAny_mono h (fun r s' hr => by
            obtain ⟨b, rfl, hq⟩ := hr
            repeat (first | exact ⟨_, rfl, hq⟩ | (refine wpAny_pure ⟨_, rfl, hq⟩) | (refine wpAny_bind (m := truthy (.bool _)) (wpAny_truthy_bool ?_)) | wp_step)) fun _ _ e => e)))
      | wp_step)
  unfold richCompare
  simp only [oneThing_ref]
  refine wpAny_holding (wpAny_bind (wpAny_cRoomFor (Nat.lt_of_succ_lt hu) ?_))
  refine wpAny_bind (I.type.here (wpAny_bind (hb.here ?_)))
  split
  · rename_i q
    have e : subIn K tb (.ref C) = some false := by
      rcases Bool.or_eq_true_iff.mp hn with e | e
      · rw [beq_iff_eq.mp e] at q; simp at q
      · exact beq_iff_eq.mp e
    refine wpAny_bind ((looks_subIn X e).here ?_)
    simp only [Bool.false_eq_true, if_false]
    refine wpAny_bind (wpAny_mono one (fun r s' z => ?_) fun _ _ e => e)
    obtain ⟨v, rfl, hq⟩ := z
    exact wpAny_pure hq
  · refine wpAny_bind (wpAny_pure ?_)
    simp only [Bool.false_eq_true, if_false]
    refine wpAny_bind (wpAny_mono one (fun r s' z => ?_) fun _ _ e => e)
    obtain ⟨v, rfl, hq⟩ := z
    exact wpAny_pure hq
/-- x op b, x an instance whose own method answers, b of a built-in type -/
theorem lbinop1_K {nm : String} {b : Value} {T idr : String} {q : Option Value} {Q : Option Value → Shared → Prop} (F : Fr h₀ L s.heap m) (X₀ : K.In h₀) (I : InstAt s.heap x ox C od) (hc : selfFirst K C = true)
    (hb : s.TypeIs b T) (hfT : fillsNumberSlot (.type T) nm = pure true) (hsub : subIn K (.type T) (.ref C) = some false) (hr : Slot T (dunderR nm) idr)
    (hs : findIn K (.ref C) (PySem.dunder nm) = some (some (.ref f))) (hf : isFn K (.ref f) = true) (hsr : findIn K (.ref C) (dunderR nm) = some q)
    (hq : q = none ∨ ∃ g, q = some (.ref g))
    (h : wpAny (model prog w) A (call (.ref f) [.ref x, b]) (PySem.W.CmpBack fun v => Q (some v)) E s) : wpAny (model prog w) A (binaryOp1 nm (.ref x) b) Q E s := by
  have X := X₀.keeps F.keep
  obtain ⟨cd, hcd, hm⟩ := any_some hc
  obtain ⟨rest, hm⟩ : ∃ rest, cd.mro = .ref C :: rest := by
    cases q : cd.mro with
    | nil => rw [q] at hm; cases hm
    | cons a r => rw [q] at hm; exact ⟨r, by rw [List.head?_cons] at hm; cases (beq_iff_eq.mp hm); rfl⟩
  simp only [binaryOp1]
  refine wpAny_bind (I.type.here (wpAny_bind (wpAny_typeOf hb (wpAny_bind ((fills_K X hcd hm hs).here ?_)))))
  have hne : (Value.ref C == Value.type T) = false := by simp
  simp only [hne, Bool.false_eq_true, if_false]
  refine wpAny_bind (wpAny_of_eq hfT ?_)
  simp only [Bool.and_self, if_true]
  refine wpAny_bind ((looks_subIn X hsub).here ?_)
  simp only [Bool.false_eq_true, if_false, pure_bind, Bool.not_false, Bool.and_self, if_true]
  refine wpAny_bind ?_
  unfold numberSlotInPython
  refine wpAny_bind ((looks_findIn X hs).here ?_)
  show wpAny (model prog w) A ((pure true : Sem Bool) >>= _) _ _ _
  refine wpAny_bind (wpAny_pure (wpAny_bind ((looks_findIn X hsr).here ?_)))
  have hcr : ∃ r : Bool, calledByName (.ref C) (dunderR nm) q = pure r := by
    rcases hq with rfl | ⟨g, rfl⟩
    · exact ⟨false, rfl⟩
    · exact ⟨true, rfl⟩
  obtain ⟨r, hcr⟩ := hcr
  refine wpAny_bind (wpAny_of_eq hcr ?_)
  rw [Bool.true_or, if_pos rfl]
  refine wpAny_pure ?_
  rw [if_pos rfl]
  show wpAny (model prog w) A ((pure false : Sem Bool) >>= _) _ _ _
  refine wpAny_bind (wpAny_pure ?_)
  rw [if_pos (show (!false) = true from rfl)]
  refine wpAny_bind (wpAny_of_eq hr.lookup ?_)
  refine wpAny_bind (m := tryMethod (.ref x) _ b) ?_
  unfold tryMethod
  refine wpAny_bind (special_fn X I hs (beq_iff_eq.mp hf) (wpAny_mono h (fun v s' hv => ?_) fun _ _ e => e))
  cases v <;> first | exact hv.elim | exact wpAny_pure (wpAny_pure hv)
theorem lbinop_K {op : Operator} {b : Value} {T idr : String} {q : Option Value} {Q : Value → Shared → Prop} (F : Fr h₀ L s.heap m) (X₀ : K.In h₀) (I : InstAt s.heap x ox C od) (hc : selfFirst K C = true)
    (hb : s.TypeIs b T) (hfT : fillsNumberSlot (.type T) op.info.2 = pure true) (hsub : subIn K (.type T) (.ref C) = some false) (hr : Slot T (dunderR op.info.2) idr)
    (hs : findIn K (.ref C) (PySem.dunder op.info.2) = some (some (.ref f))) (hf : isFn K (.ref f) = true) (hsr : findIn K (.ref C) (dunderR op.info.2) = some q)
    (hq : q = none ∨ ∃ g, q = some (.ref g))
    (h : wpAny (model prog w) A (call (.ref f) [.ref x, b]) (PySem.W.CmpBack Q) E s) : wpAny (model prog w) A (binaryOp op (.ref x) b) Q E s := by
  rcases hi : op.info with ⟨sym, nm⟩
  rw [hi] at hfT hr hs hsr
  simp only [binaryOp, hi]
  refine wpAny_holding ?_
  refine wpAny_bind (lbinop1_K F X₀ I hc hb hfT hsub hr hs hf hsr hq (wpAny_mono h (fun v' s₂ h₂ => ?_) fun _ _ x => x))
  cases v' <;> first | exact h₂.elim | exact wpAny_pure h₂
end
end OL


set_option Elab.async false
set_option linter.all false
set_option maxRecDepth 100000
set_option maxHeartbeats 1000000
namespace OL
open PySem PySem.Spec PyProof.Rows L2

/-! ### room, and no repr under way -/
structure RoomG (k : Nat) (A : Around) : Prop where
  room : Room k A
  gd : A.guards = some []
theorem RoomG.mono {j k : Nat} {A : Around} (r : RoomG k A) (h : j ≤ k) : RoomG j A := ⟨r.room.mono h, r.gd⟩
theorem RoomG.in1 {k : Nat} {A : Around} (r : RoomG (k + 1) A) : RoomG k A.in1 := ⟨r.room.in1, r.gd⟩
theorem RoomG.deeper {k : Nat} {A : Around} (r : RoomG (k + 1) A) (env : Env) : RoomG k (A.deeper env) := ⟨r.room.deeper env, r.gd⟩
theorem RoomG.units {k : Nat} {A : Around} (r : RoomG k A) : A.units + 64 < cLine := r.room.units

/-- a def's promise, where no repr is under way -/
structure FnG (P : Program) (w : World) (K : PySem.W.Frag) (mg : Str → Option Value) (base : Heap) (CX : CXT) (k : Nat) (f : Addr) (fd : FuncData) (ps : List Str) (sp : Sp) : Prop where
  len : ∀ vs H Q E, sp vs H Q E → vs.length = ps.length
  run : ∀ (A : Around) (outer : List Env) (s : Shared) (H : Hp) (args : Args) (us : List Value) (vs : List V) (Q : VK) (E : XK), RoomG k A → Env0 P w K mg base A outer s H → BindsTo s fd args (ps.zip us) → Vals vs us → sp vs H Q E →
    codeAny (model P w) A (.call (.ref f) args) (CR CX outer P w H s Q E) s
theorem FnG.mono {P : Program} {w : World} {K : PySem.W.Frag} {mg : Str → Option Value} {base : Heap} {CX : CXT} {j k : Nat} {f : Addr} {fd : FuncData} {ps : List Str} {sp : Sp} (F : FnG P w K mg base CX j f fd ps sp) (h : j ≤ k) : FnG P w K mg base CX k f fd ps sp :=
  ⟨F.len, fun A outer s H args us vs Q E hr => F.run A outer s H args us vs Q E (hr.mono h)⟩

theorem fn_ofG {CX : CXT} {P : Program} {w : World} {K : PySem.W.Frag} {mg : Str → Option Value} {base : Heap} {k : Nat} {f : Addr} {name qual : Str} {params : Arguments} {body : List Stmt} {scope : Scope} {dV kV doc pm cdv ct oc : Value} {an od : Option Addr}
    {osl : Array (Option Value)} {N ps : List Str} {sp : Sp} (lk : K.lookup f = some ⟨oc, od, .func (PySem.W.fnOf name qual params body scope dV kV doc pm an cdv ct), osl⟩) (hcd : PySem.W.codeIn K cdv qual = true) (S : FnScope N ps scope)
    (len : ∀ vs H Q E, sp vs H Q E → vs.length = ps.length)
    (hbody : ∀ (A : Around) (outer : List Env) (s : Shared) (H : Hp) (vs : List V) (Q : VK) (E : XK), RoomG k (A.deeper (envOfC qual scope s.heap.objs.size f cdv)) → sp vs H Q E →
      ∃ t, PSs (cxOf CX P w K mg base N qual scope f cdv A outer s H E) body t ∧ t { nx := fun _ H' => Q .non H', rt := Q } (start N vs) H) :
    FnG P w K mg base CX (k + 1) f (PySem.W.fnOf name qual params body scope dV kV doc pm an cdv ct) ps sp := by
  refine ⟨len, fun A outer s H args us vs Q E hG env0 bnd rel want => ?_⟩
  have hr := hG.room
  have hlen := len _ _ _ _ want
  have inK : K.In s.heap := env0.mod.kin.keeps fun b o e => (env0.bs b o e).1
  have nolim : s.heap.NoLimit := env0.mod.nolimit.keeps fun b o e => (env0.bs b o e).1
  have kinds : ∀ y ∈ ps.zip us, scope.names.lookup y.1 = some .local ∨ (scope.names.lookup y.1 = some .cell ∧ ((cellsFrom (s.heap.objs.size + 1) scope.names []).lookup y.1).isSome = true) := by
    intro y hy
    obtain ⟨n, v⟩ := y
    rcases S.par n (List.of_mem_zip hy).1 with loc | cel
    · exact Or.inl loc
    · exact Or.inr ⟨cel, PySem.W.cellsFrom_some _ _ _ (Or.inl cel)⟩
  refine codeAny_call_function hr.depth (inK _ _ lk) rfl S.co S.gen rfl (PySem.W.codeRec_of inK hcd) (bnd _ _ _ _ ?_)
  refine wpAny_newFunctionEnv_cells S.kind kinds fun env eenv s1 inC => ?_
  subst eenv
  refine ⟨nolim.keeps inC.toInCall.keep, codeAny_func ?_⟩
  obtain ⟨t, ht, hq⟩ := hbody A outer s H vs Q E (hG.deeper _) want
  have J : Inv (cxOf CX P w K mg base N qual scope f cdv A outer s H E) [] (start N vs) H s1 := inv_start S hr.hd env0 hlen rel inC
  refine wpAny_mono (ht.run [] s1 (start N vs) H _ J hq) (fun fl s' got => ?_) fun e s' got => got
  cases fl with
  | ret u =>
    obtain ⟨v, σ', H', I', rv, q⟩ := got
    exact ⟨v, H', I'.os, I'.bare, I'.base, I'.hok, rv, q⟩
  | next =>
    obtain ⟨σ', H', I', q⟩ := got
    exact ⟨V.non, H', I'.os, I'.bare, I'.base, I'.hok, rfl, q⟩
  | brk =>
    obtain ⟨_, _, _, q⟩ := got
    exact q.elim
  | cont =>
    obtain ⟨_, _, _, q⟩ := got
    exact q.elim
section
variable {X : Cx} {CX : CXT} {k : Nat} {f C : Addr} {fd : FuncData} {ps : List Str} {sp : Sp} {E : XK}
/-- a callee's run from a body, or one deeper in a builtin -/
theorem run_at {A : Around} {pins : List (Addr × Obj)} {σ : L2.St} {H : Hp} {s : Shared} {Q : VK} {us : List Value} {vs : List V} (F : FnG X.prog X.w X.K X.mg X.base CX k f fd ps sp) (hr : RoomG k A) (hb : Binds X.K fd ps []) (hx : Passes CX X E)
    (I : Inv X pins σ H s) (e0 : Env0 X.prog X.w X.K X.mg X.base A X.stack s H) (r : Vals vs us) (h : sp vs H Q E) : wpAny (model X.prog X.w) A (call (.ref f) us) (EP X pins σ Q) X.xe s := by
  have hl : (us ++ []).length = ps.length := by rw [List.append_nil, ← r.length]; exact F.len _ _ _ _ h
  have bnd := hb s us I.kIn hl
  rw [List.append_nil] at bnd
  refine wpAny_call (codeAny_mono (F.run A X.stack s H ⟨us, []⟩ us vs Q E hr e0 bnd r h) fun r s' got => ?_)
  cases r with
  | error e => exact hx pins σ H s e s' I got
  | ok fl =>
    cases fl with
    | ret u => exact I.after got
    | next => exact got.elim
    | brk => exact got.elim
    | cont => exact got.elim
theorem run_g {pins : List (Addr × Obj)} {σ : L2.St} {H : Hp} {s : Shared} {Q : VK} {us : List Value} {vs : List V} (F : FnG X.prog X.w X.K X.mg X.base CX k f fd ps sp) (hr : RoomG k X.A) (hb : Binds X.K fd ps []) (hx : Passes CX X E)
    (I : Inv X pins σ H s) (r : Vals vs us) (h : sp vs H Q E) : wpAny (model X.prog X.w) X.A (call (.ref f) us) (EP X pins σ Q) X.xe s := run_at F hr hb hx I I.env0 r h
end
end OL

namespace OL
open PySem PySem.Spec PyProof.Rows L2
section
variable {X : Cx} {CX : CXT} {k : Nat} {C f : Addr} {fd : FuncData} {ps : List Str} {sp : Sp} {E : XK}

theorem not_ni {v : V} {u : Value} (r : RelV v u) : u ≠ .notImplemented := by
  intro e
  subst e
  cases v with
  | non => cases (show Value.notImplemented = Value.none from r)
  | bl b => cases (show Value.notImplemented = Value.bool b from r)
  | int i => obtain ⟨t, e⟩ := (show ∃ t, Value.notImplemented = Value.int i t from r); cases e
  | str x => obtain ⟨t, e⟩ := (show ∃ t, Value.notImplemented = Value.str x t from r); cases e
  | byt b => obtain ⟨t, e⟩ := (show ∃ t, Value.notImplemented = Value.bytes b t from r); cases e
  | flt b => obtain ⟨t, e⟩ := (show ∃ t, Value.notImplemented = Value.float b t from r); cases e
  | ref a => cases (show Value.notImplemented = Value.ref a from r)
  | ty n => cases (show Value.notImplemented = Value.type n from r)

/-- what the special method's run is wanted to leave: no NotImplemented -/
theorem back_ep {pins : List (Addr × Obj)} {σ : L2.St} {Q : VK} {u : Value} {s' : Shared} (h : EP X pins σ Q u s') : PySem.W.CmpBack (EP X pins σ Q) u s' := by
  obtain ⟨v, H', I', r, q⟩ := h
  have e := not_ni r
  cases u <;> first | exact absurd rfl e | exact ⟨v, H', I', r, q⟩

/-- i op o: o an instance of the class at C whose reflected method answers -/
def rOwnR (C : Addr) (sp : Sp) (E : XK) : R2 := fun x y H Q => ∃ i a dx fs, x = .int i ∧ y = .ref a ∧ H a = some (.ins C dx fs) ∧ sp [.ref a, .int i] H Q E
/-- o op i -/
def rOwnL (C : Addr) (sp : Sp) (E : XK) : R2 := fun x y H Q => ∃ i a dx fs, x = .ref a ∧ y = .int i ∧ H a = some (.ins C dx fs) ∧ sp [.ref a, .int i] H Q E

/-- what the written part says of a class with reflected methods -/
structure RefC (K : PySem.W.Frag) (C : Addr) : Prop where
  sf : PySem.W.selfFirst K C = true
  si : PySem.W.subIn K (.ref C) (.type "int") = some false
  is : PySem.W.subIn K (.type "int") (.ref C) = some false

theorem op_ownR_aux {op : Operator} {idl : String} (R : RefC X.K C) (F : FnG X.prog X.w X.K X.mg X.base CX k f fd ps sp) (hr : RoomG k X.A) (b : Binds X.K fd ps []) (hx : Passes CX X E)
    (hs : PySem.W.findIn X.K (.ref C) (dunderR op.info.2) = some (some (.ref f))) (hf : PySem.W.isFn X.K (.ref f) = true)
    (hl : PySem.W.findIn X.K (.ref C) (PySem.dunder op.info.2) = some none ∨ ∃ g, PySem.W.findIn X.K (.ref C) (PySem.dunder op.info.2) = some (some (.ref g)))
    (hfT : fillsNumberSlot (.type "int") op.info.2 = pure true) (hsl : Slot "int" (PySem.dunder op.info.2) idl)
    (dec : ∀ {s : Shared} {x : Addr} {ox : Obj} {od : Option Obj} {i : Int} {t : Tok} {Q : Value → Shared → Prop}, PySem.W.InstAt s.heap x ox C od → ox.data = .plain → (∀ tk, Q .notImplemented { s with toks := tk }) →
      wpAny (model X.prog X.w) X.A (call (.builtin idl) [.int i t, .ref x]) Q X.xe s) : OpR X (binaryOp op) (rOwnR C sp E) := by
  intro pins s σ H x y v u Q I rx ry h
  obtain ⟨i, a, dx, fs, rfl, rfl, ha, q⟩ := h
  obtain ⟨t, rfl⟩ := (show ∃ t, v = Value.int i t from rx)
  cases (show u = Value.ref a from ry)
  obtain ⟨mA, O, _⟩ := ins_get I.hok ha
  obtain ⟨od, J, _⟩ := O.look
  obtain ⟨m, hF⟩ := I.fr
  refine rbinop_K hF I.ok.mod.kin J R.sf (fun cd rest hcd hm => ?_) (typeIs_int s i t) hfT R.si hsl hs hf (dec J rfl fun tk => ⟨rfl, rfl, ?_⟩)
  · rcases hl with h0 | ⟨g, h0⟩
    · exact fillsR_K I.kIn hcd hm h0 hs
    · exact PySem.W.fills_K I.kIn hcd hm h0
  · refine wpAny_mono (run_g (us := [.ref a, .int i t]) (vs := [.ref a, .int i]) F hr b hx (I.tok tk) (.cons rfl (.cons ⟨t, rfl⟩ .nil)) q) (fun w s' z => back_ep z) fun _ _ z => z
theorem op_modR (R : RefC X.K C) (F : FnG X.prog X.w X.K X.mg X.base CX k f fd ps sp) (hr : RoomG k X.A) (b : Binds X.K fd ps []) (hx : Passes CX X E)
    (hs : PySem.W.findIn X.K (.ref C) "__rmod__" = some (some (.ref f))) (hf : PySem.W.isFn X.K (.ref f) = true) (hl : PySem.W.findIn X.K (.ref C) "__mod__" = some none) : OpR X (binaryOp .Mod) (rOwnR C sp E) :=
  op_ownR_aux (op := .Mod) R F hr b hx hs hf (.inl hl) PySem.F.fills_int_mod PySem.F.slot_int_mod fun J hd q => int_mod_inst J hd q
theorem op_floordivR (R : RefC X.K C) (F : FnG X.prog X.w X.K X.mg X.base CX k f fd ps sp) (hr : RoomG k X.A) (b : Binds X.K fd ps []) (hx : Passes CX X E)
    (hs : PySem.W.findIn X.K (.ref C) "__rfloordiv__" = some (some (.ref f))) (hf : PySem.W.isFn X.K (.ref f) = true) (hl : PySem.W.findIn X.K (.ref C) "__floordiv__" = some none) : OpR X (binaryOp .FloorDiv) (rOwnR C sp E) :=
  op_ownR_aux (op := .FloorDiv) R F hr b hx hs hf (.inl hl) PySem.F.fills_int_floordiv PySem.F.slot_int_floordiv fun J hd q => int_floordiv_inst J hd q
theorem op_mulR {g : Addr} (R : RefC X.K C) (F : FnG X.prog X.w X.K X.mg X.base CX k f fd ps sp) (hr : RoomG k X.A) (b : Binds X.K fd ps []) (hx : Passes CX X E)
    (hs : PySem.W.findIn X.K (.ref C) "__rmul__" = some (some (.ref f))) (hf : PySem.W.isFn X.K (.ref f) = true) (hl : PySem.W.findIn X.K (.ref C) "__mul__" = some (some (.ref g))) : OpR X (binaryOp .Mult) (rOwnR C sp E) :=
  op_ownR_aux (op := .Mult) R F hr b hx hs hf (.inr ⟨g, hl⟩) PySem.F.fills_int_mul PySem.F.slot_int_mul fun J hd q => int_mul_inst J hd q
theorem op_mulL {g : Addr} (R : RefC X.K C) (F : FnG X.prog X.w X.K X.mg X.base CX k f fd ps sp) (hr : RoomG k X.A) (b : Binds X.K fd ps []) (hx : Passes CX X E)
    (hs : PySem.W.findIn X.K (.ref C) "__mul__" = some (some (.ref f))) (hf : PySem.W.isFn X.K (.ref f) = true) (hl : PySem.W.findIn X.K (.ref C) "__rmul__" = some (some (.ref g))) : OpR X (binaryOp .Mult) (rOwnL C sp E) := by
  intro pins s σ H x y v u Q I rx ry h
  obtain ⟨i, a, dx, fs, rfl, rfl, ha, q⟩ := h
  obtain ⟨t, rfl⟩ := (show ∃ t, u = Value.int i t from ry)
  cases (show v = Value.ref a from rx)
  obtain ⟨mA, O, _⟩ := ins_get I.hok ha
  obtain ⟨od, J, _⟩ := O.look
  obtain ⟨m, hF⟩ := I.fr
  refine lbinop_K (op := .Mult) hF I.ok.mod.kin J R.sf (typeIs_int s i t) PySem.F.fills_int_mul R.is PySem.F.slot_int_rmul hs hf hl (.inr ⟨g, rfl⟩) ?_
  exact wpAny_mono (run_g (us := [.ref a, .int i t]) (vs := [.ref a, .int i]) F hr b hx I (.cons rfl (.cons ⟨t, rfl⟩ .nil)) q) (fun w s' z => back_ep z) fun _ _ z => z

/-- o == p of two instances of one class with an own == -/
def rOwnEq (C : Addr) (sp : Sp) (E : XK) : R2 := fun x y H Q => ∃ a b dx dy fs gs, x = .ref a ∧ y = .ref b ∧ H a = some (.ins C dx fs) ∧ H b = some (.ins C dy gs) ∧ sp [.ref a, .ref b] H Q E
def rOwnNe (C : Addr) (sp : Sp) (E : XK) : R2 := fun x y H Q => ∃ a b dx dy fs gs, x = .ref a ∧ y = .ref b ∧ H a = some (.ins C dx fs) ∧ H b = some (.ins C dy gs) ∧ sp [.ref a, .ref b] H (fun v H' => ∃ r, v = .bl r ∧ Q (.bl (!r)) H') E
theorem op_eqOwn (F : FnG X.prog X.w X.K X.mg X.base CX k f fd ps sp) (hr : RoomG k X.A) (b : Binds X.K fd ps []) (hx : Passes CX X E)
    (hs : PySem.W.findIn X.K (.ref C) "__eq__" = some (some (.ref f))) (hf : PySem.W.isFn X.K (.ref f) = true) : OpR X (compareOp .Eq) (rOwnEq C sp E) := by
  intro pins s σ H x y v u Q I rx ry h
  obtain ⟨a, b', dx, dy, fs, gs, rfl, rfl, ha, hb, q⟩ := h
  cases (show v = Value.ref a from rx)
  cases (show u = Value.ref b' from ry)
  obtain ⟨mA, O, _⟩ := ins_get I.hok ha
  obtain ⟨od, J, _⟩ := O.look
  obtain ⟨mB, O', _⟩ := ins_get I.hok hb
  obtain ⟨od', J', _⟩ := O'.look
  obtain ⟨m, hF⟩ := I.fr
  show wpAny (model X.prog X.w) X.A (richCompare .Eq _ _) _ _ _
  refine PySem.W.cmp_K (op := .Eq) (tb := .ref C) hr.room.units0 hF I.ok.mod.kin J J'.type (by simp [PySem.W.notFirst]) hs hf ?_
  exact wpAny_mono (run_g (us := [.ref a, .ref b']) (vs := [.ref a, .ref b']) F hr b hx I (.cons rfl (.cons rfl .nil)) q) (fun w s' z => back_ep z) fun _ _ z => z
theorem op_neOwn (F : FnG X.prog X.w X.K X.mg X.base CX k f fd ps sp) (hr : RoomG (k + 1) X.A) (b : Binds X.K fd ps []) (hx : Passes CX X E)
    (hs : PySem.W.findIn X.K (.ref C) "__eq__" = some (some (.ref f))) (hf : PySem.W.isFn X.K (.ref f) = true)
    (hne : PySem.W.findIn X.K (.ref C) "__ne__" = some (some (.builtin "object.__ne__"))) (hmr : PySem.W.mroIn X.K C (.type "object") = some true) : OpR X (compareOp .NotEq) (rOwnNe C sp E) := by
  intro pins s σ H x y v u Q I rx ry h
  obtain ⟨a, b', dx, dy, fs, gs, rfl, rfl, ha, hb, q⟩ := h
  cases (show v = Value.ref a from rx)
  cases (show u = Value.ref b' from ry)
  obtain ⟨mA, O, _⟩ := ins_get I.hok ha
  obtain ⟨od, J, _⟩ := O.look
  obtain ⟨mB, O', _⟩ := ins_get I.hok hb
  obtain ⟨od', J', _⟩ := O'.look
  obtain ⟨m, hF⟩ := I.fr
  show wpAny (model X.prog X.w) X.A (richCompare .NotEq _ _) _ _ _
  refine ne_K (tb := .ref C) (by have := hr.units; omega) hF I.ok.mod.kin J J'.type (by simp [PySem.W.notFirst]) hne hmr hs hf ?_
  refine wpAny_mono (run_at (us := [.ref a, .ref b']) (vs := [.ref a, .ref b']) F hr.in1 b hx I I.env0.in1 (.cons rfl (.cons rfl .nil)) q) (fun w s' z => ?_) fun _ _ z => z
  obtain ⟨v, H', I', r, c, e, q'⟩ := z
  subst e
  cases (show w = Value.bool c from r)
  exact ⟨c, rfl, .bl (!c), H', I', rfl, q'⟩
end
end OL

namespace OL
open PySem PySem.Spec PyProof.Rows L2
/-- a def by its body -/
theorem _root_.L2.Fun.okG {P : Program} {w : World} {K : PySem.W.Frag} {mg : Str → Option Value} {base : Heap} {x qual : Str} {st : Stmt} {f : Addr} {fd : FuncData} {N ps : List Str} {k : Nat} {sp : Sp} (F : Fun K x qual st f fd) (S : FnScope N ps (defScope st)) (len : ∀ vs H Q E, sp vs H Q E → vs.length = ps.length)
    (hbody : ∀ (cdv : Value) (A : Around) (outer : List Env) (s : Shared) (H : Hp) (vs : List V) (Q : VK) (E : XK), RoomG k (A.deeper (envOfC qual (defScope st) s.heap.objs.size f cdv)) → sp vs H Q E →
      ∃ t, PSs (cxOf CX0 P w K mg base N qual (defScope st) f cdv A outer s H E).nox (defBody st) t ∧ t { nx := fun _ H' => Q .non H', rt := Q } (start N vs) H) : FnG P w K mg base CX0 (k + 1) f fd ps sp := by
  obtain ⟨oc, od, kV, doc, pm, an, cdv, ct, osl, rfl, lk, hcd⟩ := F.ex
  refine fn_ofG lk hcd S len fun A outer s H vs Q E hG want => ?_
  obtain ⟨t, ht, q⟩ := hbody cdv A outer s H vs Q E hG want
  exact ⟨t, ht.nox, q⟩
theorem make_guards {A : Around} {C : Addr} {us : List Value} {kw : List (Str × Value)} : (A.under (.builtin "type.__call__" ⟨.ref C :: us, kw⟩)).guards = A.guards := by
  first | rfl | simp [Around.under, Code.weight, Code.isCreation, Code.isGuard, Code.isCaller, Code.frames, Code.isFrame, guardIds, Code.guards, pushGuards]
section
variable {X : Cx} {CX : CXT} {k : Nat} {f C : Addr} {fd : FuncData} {ps : List Str} {sp : Sp} {E : XK}
theorem run_mk {pins : List (Addr × Obj)} {σ : L2.St} {H : Hp} {s : Shared} {Q : VK} {us : List Value} {vs : List V} (M : Mk X.K C f) (F : FnG X.prog X.w X.K X.mg X.base CX k f fd ps sp) (hr : RoomG (k + 1) X.A) (hb : Binds X.K fd ps [])
    (hx : Passes CX X E) (I : Inv X pins σ H s) (r : Vals vs us)
    (h : ∀ x dx, H x = none → H dx = none → dx ≠ x → sp (.ref x :: vs) (upd (upd H dx (.own x)) x (.ins C dx [])) (fun v H2 => v = .non ∧ Q (.ref x) H2) E) :
    wpAny (model X.prog X.w) X.A (call (.ref C) us) (EP X pins σ Q) X.xe s := by
  have want := h (s.heap.objs.size + 1) s.heap.objs.size (I.hok.fresh (Nat.le_succ _)) (I.hok.fresh (Nat.le_refl _)) (Nat.ne_of_lt (Nat.lt_succ_self _))
  have J := Inv.made (C := C) I
  have rel : Vals (V.ref (s.heap.objs.size + 1) :: vs) (Value.ref (s.heap.objs.size + 1) :: us) := .cons rfl r
  have hlen : (Value.ref (s.heap.objs.size + 1) :: us ++ []).length = ps.length := by
    rw [List.append_nil, ← rel.length]
    exact F.len _ _ _ _ want
  have bnd := hb _ (Value.ref (s.heap.objs.size + 1) :: us) J.kIn hlen
  rw [List.append_nil] at bnd
  have rm : RoomG k (X.A.under (.builtin "type.__call__" ⟨.ref C :: us, []⟩)) := ⟨hr.room.make C us [], make_guards.trans hr.gd⟩
  refine wpAny_call (make_map (f := f) I.kIn M.makes M.init (beq_iff_eq.mp M.fn) (codeAny_mono (F.run _ X.stack _ _ ⟨Value.ref (s.heap.objs.size + 1) :: us, []⟩ _ _ _ E rm (J.env0.make C us []) bnd rel want) fun r s' got => ?_))
  cases r with
  | error e => exact hx pins σ _ _ e s' J got
  | ok fl =>
    cases fl with
    | ret u =>
      obtain ⟨v, H', I3, rv, ev, q3⟩ := J.after got
      subst ev
      exact ⟨rv, ⟨V.ref (s.heap.objs.size + 1), H', I3, rfl, q3⟩⟩
    | next => exact got.elim
    | brk => exact got.elim
    | cont => exact got.elim
end
end OL

namespace OL
open PySem PySem.Spec PyProof.Rows L2

/-! ### readings made weaker -/
theorem pe_imp {X : Cx} {e : Expr} {t t' : TE} (h : PE X e t) (i : ∀ σ H Q, t' σ H Q → t σ H Q) : PE X e t' := ⟨fun pins s σ H Q I q => h.run pins s σ H Q I (i σ H Q q)⟩

/-! ### what stands at the top: a def, a method, a class -/
structure DefT (K : PySem.W.Frag) (mg : Str → Option Value) (x : Str) (st : Stmt) (ps : List Str) : Prop where
  ex : ∃ f fd, Fun K x x st f fd ∧ mg x = some (.ref f) ∧ Binds K fd ps []
structure MethT (K : PySem.W.Frag) (C : Addr) (x qual : Str) (st : Stmt) (ps : List Str) : Prop where
  ex : ∃ f fd, Fun K x qual st f fd ∧ PySem.W.findIn K (.ref C) x = some (some (.ref f)) ∧ PySem.W.isFn K (.ref f) = true ∧ Binds K fd ps []
/-- a class of the text without special ways -/
structure ClsT (K : PySem.W.Frag) (mg : Str → Option Value) (x : Str) (C : Addr) : Prop where
  cl : Cls K C
  mkC : PySem.W.makesIn K C = true
  kp : PySem.W.keepIn K (.ref C) = true
  mgC : mg x = some (.ref C)

section
variable {P : Program} {w : World} {K : PySem.W.Frag} {mg : Str → Option Value} {base : Heap}
structure CalF (P : Program) (w : World) (K : PySem.W.Frag) (mg : Str → Option Value) (base : Heap) (k : Nat) (x : Str) (ps : List Str) (sp : Sp) : Prop where
  ex : ∃ f fd, FnG P w K mg base CX0 k f fd ps sp ∧ mg x = some (.ref f) ∧ PySem.W.keepIn K (.ref f) = true ∧ Binds K fd ps []
structure MetF (P : Program) (w : World) (K : PySem.W.Frag) (mg : Str → Option Value) (base : Heap) (k : Nat) (C : Addr) (x : Str) (ps : List Str) (sp : Sp) : Prop where
  ex : ∃ f fd, FnG P w K mg base CX0 k f fd ps sp ∧ PySem.W.findIn K (.ref C) x = some (some (.ref f)) ∧ PySem.W.isFn K (.ref f) = true ∧ PySem.W.keepIn K (.ref f) = true ∧ Binds K fd ps [] ∧ ∃ oc od osl, K.lookup f = some ⟨oc, od, .func fd, osl⟩
theorem DefT.ok {x : Str} {st : Stmt} {ps N : List Str} {k : Nat} {sp : Sp} (D : DefT K mg x st ps) (S : FnScope N ps (defScope st)) (len : ∀ vs H Q E, sp vs H Q E → vs.length = ps.length)
    (hbody : ∀ (f : Addr) (cdv : Value) (A : Around) (outer : List Env) (s : Shared) (H : Hp) (vs : List V) (Q : VK) (E : XK), RoomG k (A.deeper (envOfC x (defScope st) s.heap.objs.size f cdv)) → sp vs H Q E →
      ∃ t, PSs (cxOf CX0 P w K mg base N x (defScope st) f cdv A outer s H E).nox (defBody st) t ∧ t { nx := fun _ H' => Q .non H', rt := Q } (start N vs) H) : CalF P w K mg base (k + 1) x ps sp := by
  obtain ⟨f, fd, F, hm, b⟩ := D.ex
  exact ⟨f, fd, F.okG S len (hbody f), hm, F.kp, b⟩
theorem MethT.ok {C : Addr} {x qual : Str} {st : Stmt} {ps N : List Str} {k : Nat} {sp : Sp} (D : MethT K C x qual st ps) (S : FnScope N ps (defScope st)) (len : ∀ vs H Q E, sp vs H Q E → vs.length = ps.length)
    (hbody : ∀ (f : Addr) (cdv : Value) (A : Around) (outer : List Env) (s : Shared) (H : Hp) (vs : List V) (Q : VK) (E : XK), RoomG k (A.deeper (envOfC qual (defScope st) s.heap.objs.size f cdv)) → sp vs H Q E →
      ∃ t, PSs (cxOf CX0 P w K mg base N qual (defScope st) f cdv A outer s H E).nox (defBody st) t ∧ t { nx := fun _ H' => Q .non H', rt := Q } (start N vs) H) : MetF P w K mg base (k + 1) C x ps sp := by
  obtain ⟨f, fd, F, hm, hf, b⟩ := D.ex
  obtain ⟨oc, od, kV, doc, pm, an, cdv, ct, osl, e, lk, hcd⟩ := id F.ex
  exact ⟨f, fd, F.okG S len (hbody f), hm, hf, F.kp, b, oc, od, osl, lk⟩
end

/-- a call, a method's call, by the promise -/
def tC1 (sp : Sp) (t : TA) : TE := fun σ H Q => t σ H fun vs H1 => sp vs H1 Q E0
def tM1 (C : Addr) (m : Str) (sp : Sp) (ta : TE) (t : TA) : TE := fun σ H Q => ta σ H fun x H1 => ∃ a dx fs, x = .ref a ∧ H1 a = some (.ins C dx fs) ∧ fs.lookup m = none ∧ t σ H1 fun vs H2 => sp (x :: vs) H2 Q E0
section
variable {X : Cx} {j k : Nat} {C : Addr} {x m : Str} {ps : List Str} {sp : Sp} {p pos apos : Pos} {e o : Expr} {es : List Expr} {ta : TE} {t : TA}
theorem pe_f (c : CalF X.prog X.w X.K X.mg X.base k x ps sp) (hr : RoomG j X.A) (ha : PA X (e :: es) t) (hk : k ≤ j := by decide) (hg : Gl X x := by rfl)
    (hdb : (x == ("__debug__" : Str)) = false := by decide) (he : starEach (e :: es) X.env = (false, eval e X.env) :: starEach es X.env := by rfl) (hpl : (backTo pos (starEach es X.env)).any (·.1) = false := by rfl) :
    PE X (.Call (.Name x p) (e :: es) [] pos) (tC1 sp t) := by
  obtain ⟨f, fd, F, hm, kp, b⟩ := c.ex
  refine ⟨fun pins s σ H Q I h => ?_⟩
  refine wpAny_Call_Name_kw (ld_glob I hg hm ?_ hdb)
  refine PySem.W.callWith_K (h₀ := X.base) I.ok.mod.kin kp (thn (ha.run pos pins s σ H _ I h) fun us s1 ⟨vs, H1, I1, r, q⟩ => ⟨I1.kIn, ?_⟩) he hpl
  exact run_g F (hr.mono hk) b pass0 I1 r q
theorem pe_m {pl : Sem Bool} (c : MetF X.prog X.w X.K X.mg X.base k C m ps sp) (cl : Cls X.K C) (hr : RoomG j X.A) (he : PE X o ta) (ha : PA X (e :: es) t) (hk : k ≤ j := by decide)
    (hst : starEach (e :: es) X.env = (false, eval e X.env) :: starEach es X.env := by rfl) (hpl : (backTo pos (starEach es X.env)).any (·.1) = false := by rfl)
    (ht : eval (.Call (.Attribute o m apos) (e :: es) [] pos) X.env = (do
      let ov ← eval o X.env
      standAt apos.atName
      let (f, first) ← holding [ov] (getMethod ov m pl)
      callWith pos f first (backTo pos (starEach (e :: es) X.env)) (backToKw pos (keywordEach [] X.env))) := by rfl) :
    PE X (.Call (.Attribute o m apos) (e :: es) [] pos) (tM1 C m sp ta t) := by
  obtain ⟨f, fd, F, hm, hf, kp, b, _⟩ := c.ex
  refine ⟨fun pins s σ H Q I h => ?_⟩
  refine PySem.W.methodCall_KW (pl := pl) (thn (he.run pins s σ H _ I h) fun u s1 ⟨x, H1, I1, rx, a, dx, fs, ex, ea, l, q⟩ => ?_) ht
  subst ex
  cases (show u = Value.ref a from rx)
  refine getmeth_ok I1 ea cl ⟨hm, hf, kp⟩ l ?_
  refine PySem.W.callWith_K (first := [.ref a]) (h₀ := X.base) I.ok.mod.kin kp (thn (ha.run pos pins s1 σ H1 _ I1 q) fun us s2 ⟨vs, H2, I2, r, q2⟩ => ⟨I2.kIn, ?_⟩) hst hpl
  exact run_g (us := .ref a :: us) (vs := .ref a :: vs) F (hr.mono hk) b pass0 I2 (.cons rfl r) q2
theorem pe_m0 {pl : Sem Bool} (c : MetF X.prog X.w X.K X.mg X.base k C m ps sp) (cl : Cls X.K C) (hr : RoomG j X.A) (he : PE X o ta) (hk : k ≤ j := by decide)
    (ht : eval (.Call (.Attribute o m apos) [] [] pos) X.env = (do
      let ov ← eval o X.env
      standAt apos.atName
      let (f, first) ← holding [ov] (getMethod ov m pl)
      callWith pos f first (backTo pos (starEach [] X.env)) (backToKw pos (keywordEach [] X.env))) := by rfl) :
    PE X (.Call (.Attribute o m apos) [] [] pos) (tM1 C m sp ta tNil) := by
  obtain ⟨f, fd, F, hm, hf, kp, b, _⟩ := c.ex
  refine ⟨fun pins s σ H Q I h => ?_⟩
  refine PySem.W.methodCall_KW (pl := pl) (thn (he.run pins s σ H _ I h) fun u s1 ⟨x, H1, I1, rx, a, dx, fs, ex, ea, l, q⟩ => ?_) ht
  subst ex
  cases (show u = Value.ref a from rx)
  refine getmeth_ok I1 ea cl ⟨hm, hf, kp⟩ l ?_
  exact PySem.W.callWith_K0 (first := [.ref a]) I1.kIn kp (run_g (us := [.ref a]) (vs := [.ref a]) F (hr.mono hk) b pass0 I1 (.cons rfl .nil) q)
theorem ow_mod (R : RefC X.K C) (c : MetF X.prog X.w X.K X.mg X.base k C "__rmod__" ps sp) (hr : RoomG j X.A) (hl : PySem.W.findIn X.K (.ref C) "__mod__" = some none) (hk : k ≤ j := by decide) : OpR X (binaryOp .Mod) (rOwnR C sp E0) := by
  obtain ⟨f, fd, F, hm, hf, kp, b, _⟩ := c.ex
  exact op_modR R F (hr.mono hk) b pass0 hm hf hl
theorem ow_fdiv (R : RefC X.K C) (c : MetF X.prog X.w X.K X.mg X.base k C "__rfloordiv__" ps sp) (hr : RoomG j X.A) (hl : PySem.W.findIn X.K (.ref C) "__floordiv__" = some none) (hk : k ≤ j := by decide) : OpR X (binaryOp .FloorDiv) (rOwnR C sp E0) := by
  obtain ⟨f, fd, F, hm, hf, kp, b, _⟩ := c.ex
  exact op_floordivR R F (hr.mono hk) b pass0 hm hf hl
theorem ow_mulR {ps' : List Str} {st qual} (R : RefC X.K C) (c : MetF X.prog X.w X.K X.mg X.base k C "__rmul__" ps sp) (hr : RoomG j X.A) (l : MethT X.K C "__mul__" qual st ps') (hk : k ≤ j := by decide) : OpR X (binaryOp .Mult) (rOwnR C sp E0) := by
  obtain ⟨f, fd, F, hm, hf, kp, b, _⟩ := c.ex
  obtain ⟨g, _, _, hg, _, _⟩ := l.ex
  exact op_mulR R F (hr.mono hk) b pass0 hm hf hg
theorem ow_mulL {ps' : List Str} {st qual} (R : RefC X.K C) (c : MetF X.prog X.w X.K X.mg X.base k C "__mul__" ps sp) (hr : RoomG j X.A) (l : MethT X.K C "__rmul__" qual st ps') (hk : k ≤ j := by decide) : OpR X (binaryOp .Mult) (rOwnL C sp E0) := by
  obtain ⟨f, fd, F, hm, hf, kp, b, _⟩ := c.ex
  obtain ⟨g, _, _, hg, _, _⟩ := l.ex
  exact op_mulL R F (hr.mono hk) b pass0 hm hf hg
theorem ow_eq (c : MetF X.prog X.w X.K X.mg X.base k C "__eq__" ps sp) (hr : RoomG j X.A) (hk : k ≤ j := by decide) : OpR X (compareOp .Eq) (rOwnEq C sp E0) := by
  obtain ⟨f, fd, F, hm, hf, kp, b, _⟩ := c.ex
  exact op_eqOwn F (hr.mono hk) b pass0 hm hf
theorem ow_ne (c : MetF X.prog X.w X.K X.mg X.base k C "__eq__" ps sp) (hr : RoomG j X.A) (hne : PySem.W.findIn X.K (.ref C) "__ne__" = some (some (.builtin "object.__ne__"))) (hmr : PySem.W.mroIn X.K C (.type "object") = some true) (hk : k + 1 ≤ j := by decide) : OpR X (compareOp .NotEq) (rOwnNe C sp E0) := by
  obtain ⟨f, fd, F, hm, hf, kp, b, _⟩ := c.ex
  exact op_neOwn F (hr.mono hk) b pass0 hm hf hne hmr
end

/-! ### a, b, c = x, y, z -/
section
variable {X : Cx}
def tPar3 (i j l : Nat) (ta : TA) : TS := fun D σ H => ta σ H fun vs H1 => ∃ v w u, vs = [v, w, u] ∧ D.nx (((σ.set i (some v)).set j (some w)).set l (some u)) H1
theorem ps_par3 {i j l : Nat} {x y z : Str} {a b c : Expr} {ta : TA} {px py pz pt pos : Pos} {kt k2 pt2} (hc : X.calm = true) (hN : X.N.Nodup) (hi : X.N[i]? = some x) (hj : X.N[j]? = some y) (hl : X.N[l]? = some z) (hij : i ≠ j) (hil : i ≠ l) (hjl : j ≠ l)
    (hx : X.env.scope.names.lookup x = some .local) (hy : X.env.scope.names.lookup y = some .local) (hz : X.env.scope.names.lookup z = some .local) (ha : PA X [a, b, c] ta)
    (hw : swappedStores [.Tuple [.Name x px, .Name y py, .Name z pz] kt pt] (.Tuple [a, b, c] k2 pt2) X.env = pure (some [x, y, z]))
    (hs : swapsWithSole [.Tuple [.Name x px, .Name y py, .Name z pz] kt pt] (.Tuple [a, b, c] k2 pt2) pos.line X.env = pure false := by rfl) :
    PS X (.Assign [.Tuple [.Name x px, .Name y py, .Name z pz] kt pt] (.Tuple [a, b, c] k2 pt2) pos) (tPar3 i j l ta) := by
  refine ⟨fun pins s σ H D I h => ?_⟩
  rw [exec_Assign_arm]
  refine wpAny_bind (wpAny_standAt ?_)
  rw [hs]
  refine wpAny_bind (wpAny_pure ?_)
  rw [if_neg (by decide)]
  refine wpAny_bind (Tuple_ (thn (ha.run _ pins s σ H _ I h) fun us s1 ⟨vs, H1, I1, r1, q1⟩ => ?_))
  obtain ⟨v, v2, v3, e1, q1⟩ := q1
  subst e1
  obtain ⟨u1, u2, u3, rfl, rv, rv2, rv3⟩ : ∃ u1 u2 u3, us = [u1, u2, u3] ∧ RelV v u1 ∧ RelV v2 u2 ∧ RelV v3 u3 := by
    cases r1 with
    | cons p q =>
      cases q with
      | cons p' q' =>
        cases q' with
        | cons p'' q'' =>
          cases q''
          exact ⟨_, _, _, rfl, p, p', p''⟩
  refine wpAny_newObj_type ?_ (by show 3 ≤ sizeLine; decide)
  have I2 : Inv X pins σ H1 { s1 with heap := s1.heap.push { cls := .type "tuple", data := .seq [u1, u2, u3].toArray } } := I1.kept (t' := s1.toks) fun b o e => Heap.get?_push_of_some _ e
  rw [hw]
  refine wpAny_bind (wpAny_pure ?_)
  show wpAny (model X.prog X.w) X.A (do rule "assign.swapped-stores"; let items ← unpackItems (.ref s1.heap.objs.size) 3 none; assignInOrder [fun v => bindName X.env z v, fun v => bindName X.env y v, fun v => bindName X.env x v] items.reverse; pure Flow.next) _ _ _
  refine wpAny_bind (wpAny_rule (wpAny_bind (unpackItems_tuple (items := #[u1, u2, u3]) (I.ok.hd hc) (IsTup.new s1.heap _) fun h' hx' => ?_)))
  have I3 := I2.kept (h' := h') (t' := s1.toks) fun b o e => hx' b o (Nat.ne_of_lt (Heap.lt_size e)) e
  show wpAny _ _ (assignInOrder [fun v => bindName X.env z v, fun v => bindName X.env y v, fun v => bindName X.env x v] [u3, u2, u1] >>= fun _ => pure Flow.next) _ _ _
  refine wpAny_bind (assignInOrder_cons (wpAny_bindName (store_ok I3 hN hl (.inl hz) rv3 (fun s2 I4 => ?_) (.inr hz))))
  refine assignInOrder_cons (wpAny_bindName (store_ok I4 hN hj (.inl hy) rv2 (fun s3 I5 => ?_) (.inr hy)))
  refine assignInOrder_cons (wpAny_bindName (store_ok I5 hN hi (.inl hx) rv (fun s4 I6 => assignInOrder_nil (wpAny_pure ?_)) (.inr hx)))
  have e2 : (((σ.set l (some v3)).set j (some v2)).set i (some v)) = (((σ.set i (some v)).set j (some v2)).set l (some v3)) := by
    rw [List.set_comm _ _ hjl.symm, List.set_comm _ _ hil.symm, List.set_comm _ _ hij.symm]
  rw [e2] at I6
  exact ⟨_, H1, I6, q1⟩
end
end OL

namespace OL
open PySem PySem.Spec PyProof.Rows L2
/-- a name of the module, by its value -/
def GlT (mg : Str → Option Value) (x : Str) (v : V) : Prop := ∃ u, mg x = some u ∧ RelV v u
theorem pe_gl {X : Cx} {x : Str} {pos : Pos} {v : V} (h : GlT X.mg x v) (hg : Gl X x := by rfl) (hd : (x == ("__debug__" : Str)) = false := by decide) : PE X (.Name x pos) (tC v) := by
  obtain ⟨u, hm, r⟩ := h
  exact pe_glob hg hm r hd
/-- what isinstance asks of an own class -/
structure IsT (K : PySem.W.Frag) (C : Addr) : Prop where
  ha : PySem.W.findIn K (.ref C) "__class__" = some (some (.builtin "object.__class__"))
  hn : PySem.W.specialIn K (.builtin "object.__class__") "__get__" = some (some (.builtin "getset_descriptor.__get__"))
  htk : PySem.W.takesIn K (.builtin "object.__class__") = some true
  hm : PySem.W.mroIn K C (.type "object") = some true
section
variable {K : PySem.W.Frag} {mg : Str → Option Value} {h : Heap} {f C : Addr} {x qual : Str} {st : Stmt} {ps : List Str} {oc kV dc pm cd ct : Value} {od an : Option Addr} {sl : Array (Option Value)}
theorem DefT.of (X : K.In h) (G : h.Ns mainGlobals mg) (a : PySem.W.nsIn K mainGlobals x = some (some (.ref f))) (l : K.lookup f = some ⟨oc, od, .func (PySem.W.fnOf x x (defArgs st) (defBody st) (defScope st) .none kV dc pm an cd ct), sl⟩)
    (c : PySem.W.codeIn K cd x = true) (k : PySem.W.keepIn K (.ref f) = true)
    (b : ∀ (kV doc pm : Value) (an : Option Addr) (cdv ct : Value) (us : List Value), us.length = ps.length → bindArgs (PySem.W.fnOf x x (defArgs st) (defBody st) (defScope st) .none kV doc pm an cdv ct) ⟨us, []⟩ = pure (ps.zip us)) : DefT K mg x st ps := by
  have F := fun_mk (st := st) l c k
  exact ⟨f, _, F, PySem.W.mg_of X G a, F.binds b⟩
theorem MethT.of (a : PySem.W.findIn K (.ref C) x = some (some (.ref f))) (i : PySem.W.isFn K (.ref f) = true) (l : K.lookup f = some ⟨oc, od, .func (PySem.W.fnOf x qual (defArgs st) (defBody st) (defScope st) .none kV dc pm an cd ct), sl⟩)
    (c : PySem.W.codeIn K cd qual = true) (k : PySem.W.keepIn K (.ref f) = true)
    (b : ∀ (kV doc pm : Value) (an : Option Addr) (cdv ct : Value) (us : List Value), us.length = ps.length → bindArgs (PySem.W.fnOf x qual (defArgs st) (defBody st) (defScope st) .none kV doc pm an cdv ct) ⟨us, []⟩ = pure (ps.zip us)) : MethT K C x qual st ps := by
  have F := fun_mk (st := st) l c k
  exact ⟨f, _, F, a, i, F.binds b⟩
theorem ClsT.of (X : K.In h) (G : h.Ns mainGlobals mg) (a : PySem.W.nsIn K mainGlobals x = some (some (.ref C))) (pg : PySem.W.plainGet K C Str.empty = true) (hd : PySem.W.hasDictIn K C = true) (po : PySem.W.plainOver K C = true)
    (sa : PySem.W.findIn K (.ref C) "__setattr__" = some (some (.builtin "object.__setattr__"))) (mk : PySem.W.makesIn K C = true) (kp : PySem.W.keepIn K (.ref C) = true) : ClsT K mg x C := ⟨⟨pg, hd, po, sa⟩, mk, kp, PySem.W.mg_of X G a⟩
theorem GlT.ofI {n : Int} {t : Tok} (X : K.In h) (G : h.Ns mainGlobals mg) (a : PySem.W.nsIn K mainGlobals x = some (some (.int n t))) : GlT mg x (.int n) := ⟨_, PySem.W.mg_of X G a, ⟨t, rfl⟩⟩
end
/-! ### what a store leaves as it was -/
def But (p : Addr) (H H' : Hp) : Prop := ∀ b o, H b = some o → b ≠ p → H' b = some o
theorem But.rfl' {p : Addr} {H : Hp} : But p H H := fun _ _ e _ => e
theorem But.trans {p : Addr} {H H1 H2 : Hp} (a : But p H H1) (b : But p H1 H2) : But p H H2 := fun c o e ne => b c o (a c o e ne) ne
theorem But.of {p : Addr} {H H' : Hp} (s : Same H H') : But p H H' := fun b o e _ => s b o e
theorem But.upd {p : Addr} {H : Hp} {o : HO} : But p H (upd H p o) := fun b u e ne => by rw [upd_ne ne]; exact e
theorem But.new {p l : Addr} {H : Hp} {o : HO} (h : H l = none) : But p H (L2.upd H l o) := fun b u e ne => by rw [upd_ne (ne_of_none e h)]; exact e
end OL

namespace OL
open PySem PySem.Spec PyProof.Rows L2
theorem kit_self {K : PySem.W.Frag} (t : Value) : PySem.W.kitOne K t t = some true := by
  unfold PySem.W.kitOne
  rw [if_pos (by simp)]
theorem kit_ii {K : PySem.W.Frag} : PySem.W.kitOne K (.type "int") (.type "int") = some true := kit_ty (a := "int") (b := "int") (r := true) (by decide +kernel)
theorem kit_ib {K : PySem.W.Frag} : PySem.W.kitOne K (.type "int") (.type "bool") = some false := kit_ty (a := "int") (b := "bool") (r := false) (by decide +kernel)
end OL

namespace OL
open PySem PySem.Spec PyProof.Rows L2
theorem iteD {c : Prop} [Decidable c] {A B : Prop} (hc : c) (h : A) : if decide c = true then A else B := by
  rw [if_pos (decide_eq_true hc)]
  exact h
theorem iteDF {c : Prop} [Decidable c] {A B : Prop} (hc : ¬ c) (h : B) : if decide c = true then A else B := by
  rw [if_neg (by rw [decide_eq_true_eq]; exact hc)]
  exact h
theorem iteN {b : Bool} {A B : Prop} (hb : b = true) (h : A) : if b = true then A else B := by
  rw [if_pos hb]
  exact h
theorem iteNF {b : Bool} {A B : Prop} (hb : b = false) (h : B) : if b = true then A else B := by
  rw [hb, if_neg Bool.false_ne_true]
  exact h
end OL

namespace OL
open PySem PySem.Spec PyProof.Rows L2
theorem dp_ints {K : PySem.W.Frag} {H : Hp} : ∀ ns : List Int, DpAll K H (ns.map V.int) (ns.map PyData.int)
  | [] => .nil
  | n :: r => .cons (.int n) (dp_ints r)
theorem shaped_ints (ns : List Int) : SeqAt.shaped (.list (ns.map PyData.int)) = true := by
  have h1 : ∀ ns : List Int, PyData.canLayAll0 (ns.map PyData.int) = true := by
    intro ns
    induction ns with
    | nil => rfl
    | cons a r ih => simp only [List.map_cons, PyData.canLayAll0, PyData.canLay0, ih, Bool.and_self]
  have h2 : ∀ ns : List Int, PyData.depthAll (ns.map PyData.int) = 0 := by
    intro ns
    induction ns with
    | nil => rfl
    | cons a r ih => simp only [List.map_cons, PyData.depthAll, PyData.depth, ih, Nat.max_self]
  unfold SeqAt.shaped
  simp only [PyData.canLay0, PyData.depth, h1, h2]
  decide
theorem eqv_nil (ns : List Int) : PyData.eqv (.list (ns.map PyData.int)) (.list []) = ns.isEmpty := by
  cases ns <;> simp [PyData.eqv, PyData.eqvAll]
theorem at_ex {ns : List Int} {i : Int} (h0 : 0 ≤ i) (h : i < (ns.map V.int).length) : ∃ c, atI (ns.map V.int) i = some (.int c) := by
  rw [List.length_map] at h
  obtain ⟨j, rfl⟩ : ∃ j : Nat, i = (j : Int) := ⟨i.toNat, by omega⟩
  have hj : j < ns.length := by omega
  refine ⟨ns[j], atI_nat ?_⟩
  rw [List.getElem?_map]
  simp [hj]
theorem at_ex' {xs : List V} {i : Int} (h0 : 0 ≤ i) (h : i < xs.length) : ∃ v, v ∈ xs ∧ atI xs i = some v := by
  obtain ⟨j, rfl⟩ : ∃ j : Nat, i = (j : Int) := ⟨i.toNat, by omega⟩
  have hj : j < xs.length := by omega
  refine ⟨xs[j], List.getElem_mem hj, atI_nat ?_⟩
  simp [hj]
theorem mul_bnd {a b A B : Int} (ha : 0 ≤ a ∧ a ≤ A) (hb : 0 ≤ b ∧ b ≤ B) : 0 ≤ a * b ∧ a * b ≤ A * B :=
  ⟨Int.mul_nonneg ha.1 hb.1, Int.mul_le_mul ha.2 hb.2 hb.1 (Int.le_trans ha.1 ha.2)⟩
end OL

namespace OL
open PySem PySem.Spec PyProof.Rows L2
theorem _root_.L2.SqL.small {K : PySem.W.Frag} {H : Hp} {a : Addr} {xs : List V} (h : SqL K H a xs) : True := trivial
theorem _root_.L2.SqL.but {K : PySem.W.Frag} {H H' : Hp} {p a : Addr} {xs : List V} (h : SqL K H a xs) (b : But p H H') (ne : a ≠ p) : SqL K H' a xs := by
  rcases h with (h | ⟨o, h⟩) | h
  · exact .inl (.inl (b _ _ h ne))
  · exact .inl (.inr ⟨o, b _ _ h ne⟩)
  · exact .inr h
end OL

namespace OL
open PySem PySem.Spec PyProof.Rows L2
theorem dec_int (i j : Int) : decide (V.int i = V.int j) = decide (i = j) := by
  by_cases h : i = j
  · subst h
    simp
  · have : ¬ V.int i = V.int j := fun e => h (by injection e)
    simp [h, this]
theorem op_eqi {X : Cx} : OpR X (compareOp .Eq) (rI0 fun i j => .bl (decide (i = j))) := by
  intro pins s σ H x y v u Q I rx ry h
  obtain ⟨i, j, rfl, rfl, q⟩ := h
  exact op_eq pins s σ H _ _ v u Q I rx ry ⟨rfl, by rw [dec_int]; exact q⟩
theorem op_nei {X : Cx} : OpR X (compareOp .NotEq) (rI0 fun i j => .bl (!decide (i = j))) := by
  intro pins s σ H x y v u Q I rx ry h
  obtain ⟨i, j, rfl, rfl, q⟩ := h
  exact op_ne pins s σ H _ _ v u Q I rx ry ⟨rfl, by rw [dec_int]; exact q⟩
end OL

namespace OL
open PySem PySem.Spec PyProof.Rows L2
/-- C(..) as a call with a promise of its own: the new object is what __init__ left -/
def tNew (spm : Sp) (t : TA) : TE := fun σ H Q => t σ H fun vs H1 => spm vs H1 Q E0
structure NewF (P : Program) (w : World) (K : PySem.W.Frag) (mg : Str → Option Value) (base : Heap) (k : Nat) (x : Str) (C : Addr) (ps : List Str) (spm : Sp) : Prop where
  ex : ∃ sp, MetF P w K mg base k C "__init__" ps sp ∧ ClsT K mg x C ∧
    ∀ vs H Q, spm vs H Q E0 → ∀ p dx, H p = none → H dx = none → dx ≠ p → sp (.ref p :: vs) (upd (upd H dx (.own p)) p (.ins C dx [])) (fun v H2 => v = .non ∧ Q (.ref p) H2) E0
theorem pe_w {X : Cx} {j k : Nat} {C : Addr} {x : Str} {ps : List Str} {spm : Sp} {p pos : Pos} {e : Expr} {es : List Expr} {t : TA} (c : NewF X.prog X.w X.K X.mg X.base k x C ps spm) (hr : RoomG j X.A) (ha : PA X (e :: es) t) (hk : k + 1 ≤ j := by decide) (hg : Gl X x := by rfl)
    (hdb : (x == ("__debug__" : Str)) = false := by decide) (he : starEach (e :: es) X.env = (false, eval e X.env) :: starEach es X.env := by rfl) (hpl : (backTo pos (starEach es X.env)).any (·.1) = false := by rfl) :
    PE X (.Call (.Name x p) (e :: es) [] pos) (tNew spm t) := by
  obtain ⟨sp, m, cl, imp⟩ := c.ex
  obtain ⟨f, fd, F, hm, hf, kp, b, _⟩ := m.ex
  refine ⟨fun pins s σ H Q I h => ?_⟩
  refine wpAny_Call_Name_kw (ld_glob I hg cl.mgC ?_ hdb)
  refine PySem.W.callWith_K (h₀ := X.base) I.ok.mod.kin cl.kp (thn (ha.run pos pins s σ H _ I h) fun us s1 ⟨vs, H1, I1, r, q⟩ => ⟨I1.kIn, ?_⟩) he hpl
  exact run_mk ⟨cl.mkC, hm, hf, cl.kp⟩ F (hr.mono hk) b pass0 I1 r (imp vs H1 Q q)
end OL

namespace OL
open PySem PySem.Spec PyProof.Rows L2
/-! ### repr of data -/
/-- data that repr shows -/
structure Shw (d : PyData) : Prop where
  sh : d.showable = true
  dp : d.depth ≤ 60
  nd : d.hasDict = false
  sz : d.shown.length ≤ sizeLine
/-- repr(x), x a list or a tuple of data -/
def rRepr (K : PySem.W.Frag) : List V → Hp → VK → Prop := fun xs H Q => ∃ a d, xs = [.ref a] ∧ Dp K H (.ref a) d ∧ Shw d ∧ Q (.str d.shown) H
theorem call_reprD {X : Cx} {k : Nat} (hr : RoomG k X.A) : CallR X (.builtin "repr") (rRepr X.K) := by
  intro pins s σ H xs us Q I r h
  obtain ⟨a, d, rfl, hd, hs, q⟩ := h
  cases r with
  | cons rv rn =>
    rename_i u us'
    cases rn
    cases (show u = Value.ref a from rv)
    obtain ⟨as, rd⟩ := Dp.reads I d _ _ hd rv
    have hu := hr.units
    have hdp := hs.dp
    exact repr_of_reads' rd hs.sh (PyData.noDict_hsm hs.nd) hr.gd (by omega) (fun _ _ e => e) (fun h' u tk keep => ⟨.str d.shown, H, I.kept (h' := h') (t' := tk) keep, ⟨u, rfl⟩, q⟩) hs.sz
/-! ### the head -/
section
variable {P : Program} {w : World} {K : PySem.W.Frag} {mg mb : Str → Option Value} {CX : CXT} {k : Nat} {fa a : Addr} {fd : FuncData} {x : Str} {sp : Sp} {s₁ : Shared} {vs : List Value} {ns : List Int}
def LawEnd (s₁ : Shared) : Result → Shared → Prop := fun r s' => r = .ok (.ret (.bool true)) ∧ OldK s₁.heap s'.heap ∧ s'.os = s₁.os ∧ AllBare s'.gens
/-- from an abstract heap that tracks the script at most -/
theorem head_core (KX : K.In s₁.heap) (hns : s₁.heap.Ns mainGlobals mg) (hb : s₁.heap.Ns builtinsNs mb) (hbb : ∀ x : Str, x ≠ "__name__" → mb x = bootBuiltins x) (hlim : s₁.heap.NoLimit) (hg : s₁.gens = #[])
    (ha : s₁.heap.get? a = some { cls := .type "list", data := .seq vs.toArray }) (hr : Room k callerA)
    (F : ∀ base : Heap, K.In base → base.Ns mainGlobals mg → FnG P w K mg base CX k fa fd [x] sp) (bnd : ∀ (s : Shared) (u : Value), BindsTo s fd ⟨[u], []⟩ [(x, u)])
    (noX : ∀ H e s', CX [] H s₁ (fun _ _ _ => False) e s' → False) {H : Hp} (only : Only H) (want : sp [.ref a] H (fun v _ => v = .bl true) fun _ _ _ => False) (hok : HOk P w H s₁.heap) (hA : ∀ b, H b ≠ none → b = a) (hK : H a ≠ none → K.lookup a = none) :
    codeAny (model P w) callerA (.call (.ref fa) ⟨[.ref a], []⟩) (LawEnd s₁) s₁ := by
  have untracked : ∀ {b : Addr} {o : Obj} {es : Array DictEntry} {ep : Nat}, s₁.heap.get? b = some o → o.data = .dict es ep → H b = none := by
    intro b o es ep e d
    rcases Option.eq_none_or_eq_some (H b) with q | ⟨u, q⟩
    · exact q
    · have eb : b = a := hA b (by rw [q]; exact Option.some_ne_none u)
      rw [eb, ha] at e
      injection e with e
      rw [← e] at d
      have d2 : Data.seq vs.toArray _ = Data.dict es ep := d
      cases d2
  have nsB : ∀ {b : Addr} {m : Str → Option Value}, s₁.heap.Ns b m → (hidT s₁.heap H).Ns b m := by
    intro b m n
    obtain ⟨o, es, ep, e, d, r⟩ := n
    exact ⟨o, es, ep, hidT_get e (untracked e d), d, r⟩
  have inB : K.In (hidT s₁.heap H) := by
    intro b o e
    refine hidT_get (KX b o e) ?_
    rcases Option.eq_none_or_eq_some (H b) with q | ⟨u, q⟩
    · exact q
    · have eb : b = a := hA b (by rw [q]; exact Option.some_ne_none u)
      rw [eb] at q e
      rw [hK (by rw [q]; exact Option.some_ne_none u)] at e
      cases e
  obtain ⟨mc, l1, l2⟩ := hlim
  have md : Mod K mg (hidT s₁.heap H) := ⟨inB, nsB hns, ⟨mb, nsB hb, hbb⟩, ⟨mc, nsB l1, l2⟩⟩
  have env0 : Env0 P w K mg (hidT s₁.heap H) callerA [] s₁ H :=
    { frames := rfl, mod := md, bs := fun b o e => of_hidT e, bsz := Nat.le_of_eq (hidT_size _ _), funs := trivial, frf := fun b hb => absurd (show b ∈ ([] : List Addr) from hb) List.not_mem_nil, hok := hok, bare := .of_eq hg }
  refine codeAny_mono ((F _ inB (nsB hns)).run callerA [] s₁ H ⟨[.ref a], []⟩ [.ref a] [.ref a] _ _ ⟨hr, rfl⟩ env0 (bnd s₁ (.ref a)) (.cons rfl .nil) want) fun r s' got => ?_
  cases r with
  | error e => exact (noX H e s' got).elim
  | ok fl =>
    cases fl with
    | next => exact got.elim
    | brk => exact got.elim
    | cont => exact got.elim
    | ret u =>
      obtain ⟨v, H', eos, bare, un, hok', rv, ev⟩ := got
      have ev2 : v = .bl true := ev
      rw [ev2] at rv
      cases (show u = Value.bool true from rv)
      refine ⟨rfl, OldK.of_keep fun b o e => ?_, eos, bare⟩
      rcases only b with q | ⟨ob, xs, q⟩
      · exact un.keep b o e q (fun z => absurd (show b ∈ ([] : List Addr) from z) List.not_mem_nil) List.not_mem_nil
      · have q2 := un.frzs b ob _ q
        obtain ⟨g1, _⟩ := hok b _ q
        obtain ⟨g2, _⟩ := hok' b _ q2
        rw [e] at g1
        cases g1
        exact g2
theorem law_callG (KX : K.In s₁.heap) (hns : s₁.heap.Ns mainGlobals mg) (hb : s₁.heap.Ns builtinsNs mb) (hbb : ∀ x : Str, x ≠ "__name__" → mb x = bootBuiltins x) (hlim : s₁.heap.NoLimit) (hg : s₁.gens = #[])
    (ha : s₁.heap.get? a = some { cls := .type "list", data := .seq vs.toArray }) (hi : IntsAre vs ns) (hl : ns.length ≤ sizeLine) (hr : Room k callerA)
    (F : ∀ base : Heap, K.In base → base.Ns mainGlobals mg → FnG P w K mg base CX k fa fd [x] sp) (bnd : ∀ (s : Shared) (u : Value), BindsTo s fd ⟨[u], []⟩ [(x, u)])
    (hsp : ∀ H : Hp, Only H → SqL K H a (ns.map V.int) → sp [.ref a] H (fun v _ => v = .bl true) fun _ _ _ => False)
    (noX : ∀ H e s', CX [] H s₁ (fun _ _ _ => False) e s' → False) : codeAny (model P w) callerA (.call (.ref fa) ⟨[.ref a], []⟩) (LawEnd s₁) s₁ := by
  have rels := vals_ints hi
  have len := hi.length
  rcases Option.eq_none_or_eq_some (K.lookup a) with hk | ⟨o, hk⟩
  · have at_a : (fun b => if b = a then some (HO.frz { cls := .type "list", data := .seq vs.toArray } (.lst (ns.map V.int))) else none) a = some (HO.frz { cls := .type "list", data := .seq vs.toArray } (.lst (ns.map V.int))) := if_pos rfl
    have off : ∀ b, b ≠ a → (fun b => if b = a then some (HO.frz { cls := .type "list", data := .seq vs.toArray } (.lst (ns.map V.int))) else none) b = none := fun b n => if_neg n
    refine head_core KX hns hb hbb hlim hg ha hr F bnd noX (H := fun b => if b = a then some (HO.frz { cls := .type "list", data := .seq vs.toArray } (.lst (ns.map V.int))) else none) (fun b => ?_) (hsp _ (fun b => ?_) (.inl (.inr ⟨_, at_a⟩))) (fun b u z => ?_) (fun b z => ?_) fun _ => hk
    · by_cases n : b = a
      · exact Or.inr ⟨_, _, if_pos n⟩
      · exact Or.inl (off b n)
    · by_cases n : b = a
      · exact Or.inr ⟨_, _, if_pos n⟩
      · exact Or.inl (off b n)
    · by_cases n : b = a
      · rw [n] at z ⊢
        rw [at_a] at z
        cases z
        exact ⟨ha, by rw [List.length_map]; exact hl, vs, _, rels, ha⟩
      · rw [off b n] at z
        cases z
    · by_cases n : b = a
      · exact n
      · exact absurd (off b n) z
  · have e := KX a o hk
    rw [ha] at e
    cases e
    have none_at : ∀ b u, (fun _ : Addr => (none : Option HO)) b = some u → False := fun b u z => by cases z
    exact head_core KX hns hb hbb hlim hg ha hr F bnd noX (H := fun _ => none) (fun _ => Or.inl rfl) (hsp _ (fun _ => Or.inl rfl) (.inr ⟨_, vs.toArray, _, hk, rfl, rfl, rfl, by rw [List.size_toArray, len]; exact hl, by simpa using rels⟩)) (fun b u z => (none_at b u z).elim) (fun b z => absurd rfl z) fun z => absurd rfl z
end
theorem walk_ofG {l : PySem.W.OpenLaw} {n k : Nat} {q : Program} {loose : List Str} {XP : (Str → Option Value) → Heap → Prop} {YP : World → Heap → Prop} {d : DefRec} {K : Params → PySem.W.Frag} {CX : World → CXT} {sp : World → Sp} {x : Str}
    (hn : l.most = some n) (hn2 : n ≤ sizeLine) (hdf : d.params.defaults = []) (hr : Room k callerA)
    (hY : ∀ (w : World) (h : Heap), YP w h → (K w.params).In h)
    (F : ∀ (w : World) (mg : Str → Option Value) (fa : Addr) (h : Heap), (K w.params).In h → h.Ns mainGlobals mg → mg d.name = some (.ref fa) →
      ∃ fd : FuncData, (∀ (s : Shared) (u : Value), BindsTo s fd ⟨[u], []⟩ [(x, u)]) ∧
        ∀ base : Heap, (K w.params).In base → base.Ns mainGlobals mg → FnG l.prog w (K w.params) mg base (CX w) k fa fd [x] (sp w))
    (hsp : ∀ (w : World) (H : Hp) (a : Addr) (ns : List Int), ns.length ≤ n → Only H → SqL (K w.params) H a (ns.map V.int) → sp w [.ref a] H (fun v _ => v = .bl true) fun _ _ _ => False)
    (noX : ∀ (w : World) (H : Hp) (s : Shared) (e : Value) (s' : Shared), CX w [] H s (fun _ _ _ => False) e s' → False) : PySem.W.WalkO q loose XP YP l.row.toRowW d [] (fun f vs => PySem.call f vs) := by
  refine Att.attach_call hn hdf fun w s₀ s₁ mg mb fa o pm cd doc a vs ns G Y ho hd hcd hmg hobj hints hlen hg => ?_
  obtain ⟨fd, b, FF⟩ := F w mg fa _ (hY w _ Y) G.T.g hmg
  exact law_callG (hY w _ Y) G.T.g G.T.b G.T.builtins G.T.nolimit hg hobj hints (Nat.le_trans hlen hn2) hr FF b (fun H only at_ => hsp w H a ns hlen only at_) fun H e s' => noX w H s₁ e s'
end OL

set_option Elab.async false
set_option linter.all false
set_option maxRecDepth 100000
set_option maxHeartbeats 1000000
namespace OL
open PySem PySem.Spec PyProof.Rows L2

/-! ### keywords at a method, at a class -/
theorem run_kw {X : Cx} {CX : CXT} {k : Nat} {f : Addr} {fd : FuncData} {ps ks : List Str} {sp : Sp} {E : XK} {pins : List (Addr × Obj)} {σ : L2.St} {H : Hp} {s : Shared} {Q : VK} {us ws all : List Value} {vs : List V} (F : FnG X.prog X.w X.K X.mg X.base CX k f fd ps sp) (hr : RoomG k X.A)
    (bnd : BindsTo s fd ⟨us, ks.zip ws⟩ (ps.zip all)) (hx : Passes CX X E) (I : Inv X pins σ H s) (r : Vals vs all) (h : sp vs H Q E) : wpAny (model X.prog X.w) X.A (call (.ref f) us (ks.zip ws)) (EP X pins σ Q) X.xe s := by
  refine wpAny_call (codeAny_mono (F.run X.A X.stack s H ⟨us, ks.zip ws⟩ all vs Q E hr I.env0 bnd r h) fun r s' got => ?_)
  cases r with
  | error e => exact hx pins σ H s e s' I got
  | ok fl =>
    cases fl with
    | ret u => exact I.after got
    | next => exact got.elim
    | brk => exact got.elim
    | cont => exact got.elim
/-- how a method binds m keywords: g puts their values in the parameters' order -/
structure KwB (x qual : Str) (st : Stmt) (ps ks : List Str) (m : Nat) (g : {α : Type} → List α → List α) : Prop where
  to : ∀ (kV doc pm : Value) (an : Option Addr) (cdv ct : Value) (u : Value) (ws : List Value), ws.length = m → bindArgs (PySem.W.fnOf x qual (defArgs st) (defBody st) (defScope st) .none kV doc pm an cdv ct) ⟨[u], ks.zip ws⟩ = pure (ps.zip (u :: g ws))
  rel : ∀ {zs : List V} {ws : List Value}, Vals zs ws → zs.length = m → Vals (g zs) (g ws)
def tMk (C : Addr) (m : Str) (n : Nat) (g : {α : Type} → List α → List α) (sp : Sp) (ta : TE) (t : TA) : TE := fun σ H Q => ta σ H fun x H1 => ∃ a dx fs, x = .ref a ∧ H1 a = some (.ins C dx fs) ∧ fs.lookup m = none ∧ t σ H1 fun zs H2 => zs.length = n ∧ sp (x :: g zs) H2 Q E0
section
variable {X : Cx} {j k n : Nat} {C : Addr} {x m qual : Str} {st : Stmt} {ps ks : List Str} {sp spm : Sp} {p pos apos : Pos} {e o : Expr} {kws : List Keyword} {ta : TE} {tk : TA} {g : {α : Type} → List α → List α}
theorem pe_mk {pl : Sem Bool} (c : MetF X.prog X.w X.K X.mg X.base k C m ps sp) (D : MethT X.K C m qual st ps) (B : KwB m qual st ps ks n g) (cl : Cls X.K C) (hr : RoomG j X.A) (he : PE X o ta) (hkw : PK X kws tk) (hk : k ≤ j := by decide)
    (hall : (backToKw pos (keywordEach kws X.env)).all (·.1.isSome) = true := by rfl) (hks : (backToKw pos (keywordEach kws X.env)).filterMap (·.1) = ks := by rfl)
    (hpl : ((backTo pos (starEach [] X.env)).any (·.1) || (backToKw pos (keywordEach kws X.env)).any (·.1.isNone)) = false := by rfl)
    (ht : eval (.Call (.Attribute o m apos) [] kws pos) X.env = (do
      let ov ← eval o X.env
      standAt apos.atName
      let (f, first) ← holding [ov] (getMethod ov m pl)
      callWith pos f first (backTo pos (starEach [] X.env)) (backToKw pos (keywordEach kws X.env))) := by rfl) :
    PE X (.Call (.Attribute o m apos) [] kws pos) (tMk C m n g sp ta tk) := by
  obtain ⟨f, fd, F, hm, hf, kp, b, oc, od, osl, lk⟩ := c.ex
  obtain ⟨f', fd', G, hm', _, _⟩ := D.ex
  have ef : f' = f := by
    have z := hm'.symm.trans hm
    injection z with z
    injection z with z
    injection z with z
  subst ef
  obtain ⟨oc', od', kV, doc, pm, an, cdv, ct, osl', efd, lk', _⟩ := id G.ex
  have efd2 : fd = fd' := by
    have z := lk.symm.trans lk'
    injection z with z
    injection z with _ _ z _
    injection z with z
  subst efd2
  refine ⟨fun pins s σ H Q I h => ?_⟩
  refine PySem.W.methodCall_KW (pl := pl) (thn (he.run pins s σ H _ I h) fun u s1 ⟨x, H1, I1, rx, a, dx, fs, ex, ea, l, q⟩ => ?_) ht
  subst ex
  cases (show u = Value.ref a from rx)
  refine getmeth_ok I1 ea cl ⟨hm, hf, kp⟩ l ?_
  refine PySem.W.callWith_KW0 (first := [.ref a]) (h₀ := X.base) I.ok.mod.kin kp hall ?_ hpl
  refine thn (hkw.run pos pins s1 σ H1 _ I1 q) fun ws s2 ⟨zs, H2, I2, rz, ln, q2⟩ => ⟨I2.kIn, ?_⟩
  rw [hks]
  refine run_kw (all := .ref a :: g ws) (vs := .ref a :: g zs) F (hr.mono hk) ?_ pass0 I2 (.cons rfl (B.rel rz ln)) q2
  rw [efd]
  exact .of_eq (B.to kV doc pm an cdv ct (.ref a) ws (by rw [← rz.length]; exact ln))
end

/-! ### x in o, x not in o -/
def rOwnIn (C : Addr) (sp : Sp) : R2 := fun x y H Q => ∃ a dx fs, y = .ref a ∧ H a = some (.ins C dx fs) ∧ sp [.ref a, x] H (fun v H' => ∃ b, v = .bl b ∧ Q (.bl b) H') E0
def rOwnNotIn (C : Addr) (sp : Sp) : R2 := fun x y H Q => ∃ a dx fs, y = .ref a ∧ H a = some (.ins C dx fs) ∧ sp [.ref a, x] H (fun v H' => ∃ b, v = .bl b ∧ Q (.bl (!b)) H') E0
section
variable {X : Cx} {j k : Nat} {C : Addr} {ps : List Str} {sp : Sp}
theorem ow_in (c : MetF X.prog X.w X.K X.mg X.base k C "__contains__" ps sp) (hr : RoomG j X.A) (hk : k ≤ j := by decide) : OpR X (compareOp .In) (rOwnIn C sp) := by
  obtain ⟨f, fd, F, hm, hf, kp, b, _⟩ := c.ex
  intro pins s σ H x y v u Q I rx ry h
  obtain ⟨a, dx, fs, rfl, ha, q⟩ := h
  cases (show u = Value.ref a from ry)
  obtain ⟨mA, O, _⟩ := ins_get I.hok ha
  obtain ⟨od, J, _⟩ := O.look
  obtain ⟨m, hF⟩ := I.fr
  refine PySem.W.in_K hF I.ok.mod.kin J hm hf (wpAny_mono (run_g (us := [.ref a, v]) (vs := [.ref a, x]) F (hr.mono hk) b pass0 I (.cons rfl (.cons rx .nil)) q) (fun w s' z => ?_) fun _ _ z => z)
  obtain ⟨v', H', I', r, c', e, q'⟩ := z
  subst e
  cases (show w = Value.bool c' from r)
  exact wpAny_truthy_bool ⟨.bl c', H', I', rfl, q'⟩
theorem ow_notin (c : MetF X.prog X.w X.K X.mg X.base k C "__contains__" ps sp) (hr : RoomG j X.A) (hk : k ≤ j := by decide) : OpR X (compareOp .NotIn) (rOwnNotIn C sp) := by
  obtain ⟨f, fd, F, hm, hf, kp, b, _⟩ := c.ex
  intro pins s σ H x y v u Q I rx ry h
  obtain ⟨a, dx, fs, rfl, ha, q⟩ := h
  cases (show u = Value.ref a from ry)
  obtain ⟨mA, O, _⟩ := ins_get I.hok ha
  obtain ⟨od, J, _⟩ := O.look
  obtain ⟨m, hF⟩ := I.fr
  refine PySem.W.notIn_K hF I.ok.mod.kin J hm hf (wpAny_mono (run_g (us := [.ref a, v]) (vs := [.ref a, x]) F (hr.mono hk) b pass0 I (.cons rfl (.cons rx .nil)) q) (fun w s' z => ?_) fun _ _ z => z)
  obtain ⟨v', H', I', r, c', e, q'⟩ := z
  subst e
  cases (show w = Value.bool c' from r)
  exact wpAny_truthy_bool ⟨.bl (!c'), H', I', rfl, q'⟩
/-- o == v, o an instance with an own ==, v of a known type -/
def rOwnEqV (K : PySem.W.Frag) (C : Addr) (sp : Sp) : R2 := fun x y H Q => ∃ a dx fs t, x = .ref a ∧ H a = some (.ins C dx fs) ∧ TyX K H y t ∧ PySem.W.notFirst K C t = true ∧ sp [.ref a, y] H Q E0
end

/-! ### str(o) by an own __str__ -/
def rOwnStr (C : Addr) (sp : Sp) : List V → Hp → VK → Prop := fun xs H Q => ∃ a dx fs, xs = [.ref a] ∧ H a = some (.ins C dx fs) ∧ sp [.ref a] H (fun v H' => ∃ z, v = .str z ∧ Q (.str z) H') E0
theorem call_strOwn {X : Cx} {j k : Nat} {C : Addr} {ps : List Str} {sp : Sp} (c : MetF X.prog X.w X.K X.mg X.base k C "__str__" ps sp) (hr : RoomG j X.A) (hk : k + 2 ≤ j := by decide) : CallR X (.type "str") (rOwnStr C sp) := by
  obtain ⟨f, fd, F, hm, hf, kp, b, _⟩ := c.ex
  intro pins s σ H xs us Q I r h
  obtain ⟨a, dx, fs, rfl, ha, q⟩ := h
  cases r with
  | cons rv rn =>
    rename_i u us'
    cases rn
    cases (show u = Value.ref a from rv)
    obtain ⟨mA, O, _⟩ := ins_get I.hok ha
    obtain ⟨od, J, _⟩ := O.look
    have hr2 := hr.mono hk
    have hu := hr2.units
    refine PySem.W.kso_call (by show X.A.units + 1 + 1 < cLine; omega) I.kIn J hm hf ?_
    refine wpAny_mono (run_at (us := [.ref a]) (vs := [.ref a]) F hr2.in1.in1 b pass0 I I.env0.in1.in1 (.cons rfl .nil) q) (fun w s' z => ?_) fun _ _ z => z
    obtain ⟨v', H', I', r, c', e, q'⟩ := z
    subst e
    obtain ⟨t, e⟩ := (show ∃ t, w = Value.str c' t from r)
    subst e
    exact ⟨.str c', H', I', ⟨t, rfl⟩, q'⟩
end OL

namespace OL
open PySem PySem.Spec PyProof.Rows L2
/-! ### C(k = v, ..) -/
def tNewK (spm : Sp) (n : Nat) (g : {α : Type} → List α → List α) (t : TA) : TE := fun σ H Q => t σ H fun zs H1 => zs.length = n ∧ spm (g zs) H1 Q E0
theorem run_mkK {X : Cx} {k : Nat} {f C : Addr} {fd : FuncData} {ps ks : List Str} {sp : Sp} {pins : List (Addr × Obj)} {σ : L2.St} {H : Hp} {s : Shared} {Q : VK} {ws all : List Value} {vs : List V} (M : Mk X.K C f) (F : FnG X.prog X.w X.K X.mg X.base CX0 k f fd ps sp) (hr : RoomG (k + 1) X.A)
    (bnd : ∀ (s : Shared) (u : Value), BindsTo s fd ⟨[u], ks.zip ws⟩ (ps.zip (u :: all))) (I : Inv X pins σ H s) (r : Vals vs all)
    (h : ∀ x dx, H x = none → H dx = none → dx ≠ x → sp (.ref x :: vs) (upd (upd H dx (.own x)) x (.ins C dx [])) (fun v H2 => v = .non ∧ Q (.ref x) H2) E0) :
    wpAny (model X.prog X.w) X.A (call (.ref C) [] (ks.zip ws)) (EP X pins σ Q) X.xe s := by
  have want := h (s.heap.objs.size + 1) s.heap.objs.size (I.hok.fresh (Nat.le_succ _)) (I.hok.fresh (Nat.le_refl _)) (Nat.ne_of_lt (Nat.lt_succ_self _))
  have J := Inv.made (C := C) I
  have rel : Vals (V.ref (s.heap.objs.size + 1) :: vs) (Value.ref (s.heap.objs.size + 1) :: all) := .cons rfl r
  have hg : (X.A.under (.builtin "type.__call__" ⟨[.ref C], ks.zip ws⟩)).guards = X.A.guards := make_guards
  have rm : RoomG k (X.A.under (.builtin "type.__call__" ⟨[.ref C], ks.zip ws⟩)) := ⟨hr.room.make C [] (ks.zip ws), hg.trans hr.gd⟩
  refine wpAny_call (make_map (f := f) I.kIn M.makes M.init (beq_iff_eq.mp M.fn) (codeAny_mono (F.run _ X.stack _ _ ⟨[Value.ref (s.heap.objs.size + 1)], ks.zip ws⟩ _ _ _ E0 rm (J.env0.make C [] (ks.zip ws)) (bnd _ _) rel want) fun r s' got => ?_))
  cases r with
  | error e => exact got.elim
  | ok fl =>
    cases fl with
    | ret u =>
      obtain ⟨v, H', I3, rv, ev, q3⟩ := J.after got
      subst ev
      exact ⟨rv, ⟨V.ref (s.heap.objs.size + 1), H', I3, rfl, q3⟩⟩
    | next => exact got.elim
    | brk => exact got.elim
    | cont => exact got.elim
theorem pe_wk {X : Cx} {j k n : Nat} {C : Addr} {x qual : Str} {st : Stmt} {ps ks : List Str} {spm : Sp} {p pos : Pos} {kws : List Keyword} {tk : TA} {g : {α : Type} → List α → List α} (c : NewF X.prog X.w X.K X.mg X.base k x C ps spm) (D : MethT X.K C "__init__" qual st ps) (B : KwB "__init__" qual st ps ks n g) (hr : RoomG j X.A) (hkw : PK X kws tk) (hk : k + 1 ≤ j := by decide) (hg : Gl X x := by rfl)
    (hall : (backToKw pos (keywordEach kws X.env)).all (·.1.isSome) = true := by rfl) (hks : (backToKw pos (keywordEach kws X.env)).filterMap (·.1) = ks := by rfl) (hdb : (x == ("__debug__" : Str)) = false := by decide)
    (hpl : ((backTo pos (starEach [] X.env)).any (·.1) || (backToKw pos (keywordEach kws X.env)).any (·.1.isNone)) = false := by rfl) :
    PE X (.Call (.Name x p) [] kws pos) (tNewK spm n g tk) := by
  obtain ⟨sp, m, cl, imp⟩ := c.ex
  obtain ⟨f, fd, F, hm, hf, kp, b, oc, od, osl, lk⟩ := m.ex
  obtain ⟨f', fd', G, hm', _, _⟩ := D.ex
  have ef : f' = f := by
    have z := hm'.symm.trans hm
    injection z with z
    injection z with z
    injection z with z
  subst ef
  obtain ⟨oc', od', kV, doc, pm, an, cdv, ct, osl', efd, lk', _⟩ := id G.ex
  have efd2 : fd = fd' := by
    have z := lk.symm.trans lk'
    injection z with z
    injection z with _ _ z _
    injection z with z
  subst efd2
  refine ⟨fun pins s σ H Q I h => ?_⟩
  refine wpAny_Call_Name_kw (ld_glob I hg cl.mgC ?_ hdb)
  refine PySem.W.callWith_KW0 (h₀ := X.base) I.ok.mod.kin cl.kp hall ?_ hpl
  refine thn (hkw.run pos pins s σ H _ I h) fun ws s2 ⟨zs, H2, I2, rz, ln, q2⟩ => ⟨I2.kIn, ?_⟩
  rw [hks]
  refine run_mkK (vs := g zs) (all := g ws) ⟨cl.mkC, hm, hf, cl.kp⟩ F (hr.mono hk) (fun s u => ?_) I2 (B.rel rz ln) (imp _ _ _ q2)
  rw [efd]
  exact .of_eq (B.to kV doc pm an cdv ct u ws (by rw [← rz.length]; exact ln))
end OL

set_option Elab.async false
set_option linter.all false
set_option maxRecDepth 100000
set_option maxHeartbeats 1000000
namespace OL
open PySem PySem.W PySem.Calls PyProof.Rows Builtin
open AutoSeq1 (wpAny_loadPart')
open MeetsSeq
section
variable {prog : Program} {w : World} {A : Around} {E : Value → Shared → Prop} {s : Shared} {K : Frag} {x C L f : Addr} {h₀ : Heap} {m : Str → Option Value} {ox : Obj} {od : Option Obj}
/-- v == x where v's own slot declines: the instance's == answers -/
theorem rcmp_K {a : Value} {T id : String} {Q : Value → Shared → Prop} (hu : A.units < cLine) (F : Fr h₀ L s.heap m) (X₀ : K.In h₀) (I : InstAt s.heap x ox C od) (ha : s.TypeIs a T) (hone : oneThing? .Eq a (.ref x) = none)
    (hsl : Slot T "__eq__" id) (hsub : subIn K (.ref C) (.type T) = some false) (hs : findIn K (.ref C) "__eq__" = some (some (.ref f))) (hf : isFn K (.ref f) = true)
    (h : wpAny (model prog w) A (call (.builtin id) [a, .ref x]) (fun v s₁ => v = .notImplemented ∧ s₁.heap = s.heap ∧ wpAny (model prog w) A (call (.ref f) [.ref x, a]) (PySem.W.CmpBack Q) E s₁) E s) :
    wpAny (model prog w) A (richCompare .Eq a (.ref x)) Q E s := by
  have X := X₀.keeps F.keep
  unfold richCompare
  simp only [hone]
  refine wpAny_holding (wpAny_bind (wpAny_cRoomFor hu ?_))
  refine wpAny_bind (wpAny_typeOf ha (wpAny_bind (I.type.here ?_)))
  have hne : (Value.type T != Value.ref C) = true := by simp
  rw [if_pos hne]
  refine wpAny_bind ((looks_subIn X hsub).here ?_)
  simp only [Bool.false_eq_true, if_false]
  refine wpAny_bind (wpAny_tryCompare_declines ha hsl (wpAny_mono h (fun v s₁ h₁ => ?_) fun _ _ e => e))
  obtain ⟨rfl, hh, hq⟩ := h₁
  refine ⟨rfl, ?_⟩
  simp only [Bool.not_false, if_true]
  have X1 : K.In s₁.heap := by rw [hh]; exact X
  have I1 : InstAt s₁.heap x ox C od := by rw [hh]; exact I
  have one : wpAny (model prog w) A (tryCompare (.ref x) (cmpInfo .Eq).2.2 a) (fun r s' => ∃ v, r = some v ∧ Q v s') E s₁ := by
    unfold tryCompare
    refine wpAny_bind (ifBound_K X1 I1 hs hf (wpAny_mono hq (fun v s' hv => ?_) fun _ _ e => e))
    cases v <;> first | exact hv.elim | exact wpAny_pure ⟨_, rfl, hv⟩
  refine wpAny_bind (wpAny_mono one (fun r s' z => ?_) fun _ _ e => e)
  obtain ⟨v, rfl, hq⟩ := z
  exact wpAny_pure hq
theorem int_eq_inst {i : Int} {t : Tok} {Q : Value → Shared → Prop} (I : InstAt s.heap x ox C od) (hd : ox.data = .plain) (h : ∀ tk, Q .notImplemented { s with toks := tk }) :
    wpAny (model prog w) A (call (.builtin "int.__eq__") [.int i t, .ref x]) Q E s := by
  refine wpAny_call (codeAny_call_builtin PySem.F.slot_int_eq.plain PySem.F.entry_int_eq (PySem.F.slot_int_eq.check _ _ _ _ _ _ _ _ (typeIs_int s i t) (PySem.F.args_int_eq_2 _ _) ?_))
  obtain ⟨hp, g, d, tk, os⟩ := s
  obtain ⟨oc, odd, data, sl⟩ := ox
  simp only at hd
  subst hd
  have hl : hp.get? x = some _ := I.at_
  wp_walk
  exact h tk
theorem str_eq_inst {i : Str} {t : Tok} {Q : Value → Shared → Prop} (I : InstAt s.heap x ox C od) (hd : ox.data = .plain) (h : ∀ tk, Q .notImplemented { s with toks := tk }) :
    wpAny (model prog w) A (call (.builtin "str.__eq__") [.str i t, .ref x]) Q E s := by
  refine wpAny_call (codeAny_call_builtin PySem.F.slot_str_eq.plain PySem.F.entry_str_eq (PySem.F.slot_str_eq.check _ _ _ _ _ _ _ _ (typeIs_str s i t) (PySem.F.args_str_eq_2 _ _) ?_))
  obtain ⟨hp, g, d, tk, os⟩ := s
  obtain ⟨oc, odd, data, sl⟩ := ox
  simp only at hd
  subst hd
  have hl : hp.get? x = some _ := I.at_
  wp_walk
  exact h tk
theorem none_eq_inst {Q : Value → Shared → Prop} (h : ∀ tk, Q .notImplemented { s with toks := tk }) :
    wpAny (model prog w) A (call (.builtin "NoneType.__eq__") [.none, .ref x]) Q E s := by
  refine wpAny_call (codeAny_call_builtin PySem.F.slot_NoneType_eq.plain PySem.F.entry_NoneType_eq (PySem.F.slot_NoneType_eq.check _ _ _ s _ _ _ _ (show s.TypeIs .none "NoneType" from rfl) (PySem.F.args_NoneType_eq_2 _ _) ?_))
  obtain ⟨hp, g, d, tk, os⟩ := s
  wp_walk
  exact h tk
theorem list_eq_inst {l : Addr} {items : Array Value} {n : Nat} {dd : Option Addr} {sl : Array (Option Value)} {Q : Value → Shared → Prop} (X : K.In s.heap) (I : InstAt s.heap x ox C od) (hm : mroIn K C (.type "list") = some false)
    (hl : s.heap.get? l = some { cls := .type "list", dict := dd, data := .seq items n, slots := sl }) (h : ∀ tk, Q .notImplemented { s with toks := tk }) :
    wpAny (model prog w) A (call (.builtin "list.__eq__") [.ref l, .ref x]) Q E s := by
  have sub : Looks (model prog w) s.heap (isInstance (.ref x) (.type "list")) false := I.type.andThen (looks_mroIn X hm)
  refine wpAny_call (codeAny_call_builtin PySem.F.slot_list_eq.plain PySem.F.entry_list_eq (PySem.F.slot_list_eq.check _ _ _ _ _ _ _ _ ⟨_, hl, rfl⟩ (PySem.F.args_list_eq_2 _ _) ?_))
  obtain ⟨hp, g, d, tk, os⟩ := s
  repeat (first | with_reducible refine sub.at ?_ | wp_step)
  exact h tk
theorem tuple_eq_inst {l : Addr} {items : Array Value} (X : K.In s.heap) {Q : Value → Shared → Prop} (I : InstAt s.heap x ox C od) (hm : mroIn K C (.type "tuple") = some false)
    (hl : s.TypeIs (.ref l) "tuple") (h : ∀ tk, Q .notImplemented { s with toks := tk }) :
    wpAny (model prog w) A (call (.builtin "tuple.__eq__") [.ref l, .ref x]) Q E s := by
  have sub : Looks (model prog w) s.heap (isInstance (.ref x) (.type "tuple")) false := I.type.andThen (looks_mroIn X hm)
  refine wpAny_call (codeAny_call_builtin PySem.F.slot_tuple_eq.plain PySem.F.entry_tuple_eq (PySem.F.slot_tuple_eq.check _ _ _ _ _ _ _ _ hl (PySem.F.args_tuple_eq_2 _ _) ?_))
  obtain ⟨hp, g, d, tk, os⟩ := s
  repeat (first | with_reducible refine sub.at ?_ | wp_step)
  exact h tk
theorem eqBool_anyG {a : Value} {Q : Bool → Shared → Prop} (hne : (a == .ref x) = false) (h : wpAny (model prog w) A (richCompare .Eq a (.ref x)) (fun v s' => ∃ r, v = .bool r ∧ Q r s') E s) : wpAny (model prog w) A (eqBool a (.ref x)) Q E s := by
  unfold eqBool
  refine wpAny_holding ?_
  rw [hne]
  refine wpAny_ite_split (fun z => by cases z) (fun _ => ?_)
  have fin : wpAny (model prog w) A (do let v ← richCompare .Eq a (.ref x); truthOfDropped v) Q E s := by
    refine wpAny_bind (wpAny_mono h (fun v s' hv => ?_) fun _ _ x => x)
    obtain ⟨r, rfl, q⟩ := hv
    exact wpAny_truthy_bool q
  cases a <;> exact fin
/-- x in a list: item by item, all of them unequal -/
theorem contains_loopF {R : Result → Shared → Prop} (l : Addr) (y : Value) (N : Nat) (J : Nat → Shared → Prop)
    (hl : ∀ i s, J i s → ∃ (items : Array Value) (n : Nat), s.heap.get? l = some { cls := .type "list", data := .seq items n } ∧ items.size = N ∧ ∀ h : i < items.size, wpAny (model prog w) A.in1 (eqBool items[i] y) (fun r s' => r = false ∧ J (i + 1) s') (fun e s' => R (.error e) s') s)
    (fin : ∀ s, J N s → R (.ok (.ret (.bool false))) s) (k : Nat) :
    ∀ i : Nat, N - i = k → i ≤ N → ∀ s, J i s → wpAny (model prog w) A.in1 (Builtin.«list.__contains__.loop» ⟨[.ref l, y, rawInt i], []⟩) (GQ.FinOf prog w A R) (fun e s' => R (.error e) s') s := by
  induction k with
  | zero =>
    intro i hk hi s h
    obtain ⟨items, n, ho, hs, _⟩ := hl _ _ h
    have ei : i = N := by omega
    have last : R (.ok (.ret (.bool false))) s := fin s (ei ▸ h)
    obtain ⟨hp, g, d, tk, os⟩ := s
    wp_walk using wpAny_loadPart' ho
    have out : items[((i : Nat) : Int).toNat]? = none := by simp; omega
    rw [out]
    wp_walk
    exact last
  | succ k ih =>
    intro i hk hi s h
    obtain ⟨items, n, ho, hs, turn⟩ := hl _ _ h
    have hlt : i < items.size := by omega
    have one := turn hlt
    obtain ⟨hp, g, d, tk, os⟩ := s
    wp_walk using wpAny_loadPart' ho
    have here : items[((i : Nat) : Int).toNat]? = some items[i] := by simp [hlt]
    have step : ((i : Int) + 1) = ((i + 1 : Nat) : Int) := by omega
    rw [here]
    refine wpAny_bind (wpAny_mono one (fun r s2 h2 => ?_) fun _ _ x => x)
    obtain ⟨er, h2⟩ := h2
    subst er
    have more := ih (i + 1) (by omega) (by omega) s2 h2
    obtain ⟨hp2, g2, d2, tk2, os2⟩ := s2
    wp_walk
    rw [step]
    exact ⟨plainId_quiet plain_contains_loop _, codeAny_builtin entry_contains_loop (by
      rw [Around.under_plainId plain_contains_loop _]
      exact more)⟩
theorem in_listF {l : Addr} {N : Nat} {y : Value} {Q : Value → Shared → Prop} (J : Nat → Shared → Prop)
    (hl : ∀ i s, J i s → ∃ (items : Array Value) (n : Nat), s.heap.get? l = some { cls := .type "list", data := .seq items n } ∧ items.size = N ∧ ∀ h : i < items.size, wpAny (model prog w) A.in1 (eqBool items[i] y) (fun r s' => r = false ∧ J (i + 1) s') E s)
    (fin : ∀ s, J N s → Q (.bool false) s) (h : J 0 s) : wpAny (model prog w) A (compareOp .In y (.ref l)) Q E s := by
  obtain ⟨items, n, ho, hs, _⟩ := hl _ _ h
  refine In_slot ⟨_, ho, rfl⟩ PySem.F.slot_list_contains (GQ.call_here PySem.F.slot_list_contains ⟨_, ho, rfl⟩ PySem.F.entry_list_contains (PySem.F.args_list_contains_2 _ _) ?_)
  have run := contains_loopF (A := A) (R := wants (fun r s' => wpAny (model prog w) A (truthy r) (fun b s'' => Q (.bool b) s'') E s') E) l y N J hl (fun s z => wpAny_truthy_bool (fin s z)) _ 0 rfl (Nat.zero_le _) s h
  obtain ⟨hp, g, d, tk, os⟩ := s
  wp_walk using wpAny_loadPart' ho
  exact ⟨plainId_quiet plain_contains_loop _, codeAny_builtin entry_contains_loop (by
    rw [Around.under_plainId plain_contains_loop _]
    exact run)⟩
end
end OL

namespace OL
open PySem PySem.Spec PyProof.Rows L2
/-- a value that is no instance: an int, a text, None, a list, a tuple -/
inductive OddV (H : Hp) : V → Prop
  | int (i : Int) : OddV H (.int i)
  | str (z : Str) : OddV H (.str z)
  | non : OddV H .non
  | lst {a : Addr} {xs : List V} : H a = some (.lst xs) → OddV H (.ref a)
  | tup {a : Addr} {xs : List V} : H a = some (.tup xs) → OddV H (.ref a)
/-- what the written part says of the class for these -/
structure OddC (K : PySem.W.Frag) (C : Addr) : Prop where
  si : PySem.W.subIn K (.ref C) (.type "int") = some false
  ss : PySem.W.subIn K (.ref C) (.type "str") = some false
  sn : PySem.W.subIn K (.ref C) (.type "NoneType") = some false
  sl : PySem.W.subIn K (.ref C) (.type "list") = some false
  st : PySem.W.subIn K (.ref C) (.type "tuple") = some false
  ml : PySem.W.mroIn K C (.type "list") = some false
  mt : PySem.W.mroIn K C (.type "tuple") = some false
theorem OddV.ext {H H' : Hp} {y : V} (o : OddV H y) (e : Ext H H') : OddV H' y := by
  cases o with
  | int i => exact .int i
  | str z => exact .str z
  | non => exact .non
  | lst h => exact .lst (e _ _ h)
  | tup h => exact .tup (e _ _ h)
section
variable {X : Cx} {j k : Nat} {C : Addr} {ps : List Str} {sp : Sp}
theorem odd_eq {A : Around} {pins : List (Addr × Obj)} {σ : L2.St} {H : Hp} {s : Shared} {y : V} {u : Value} {d dx : Addr} {fs : List (Str × V)} {f : Addr} {fd : FuncData} (F : FnG X.prog X.w X.K X.mg X.base CX0 k f fd ps sp) (O : OddC X.K C) (hr : RoomG k A)
    (hm : PySem.W.findIn X.K (.ref C) "__eq__" = some (some (.ref f))) (hf : PySem.W.isFn X.K (.ref f) = true) (b : Binds X.K fd ps []) (fr : A.frames = X.A.frames)
    (I : Inv X pins σ H s) (ry : RelV y u) (hd : H d = some (.ins C dx fs)) (o : OddV H y) (q : sp [.ref d, y] H (fun v H2 => v = .bl false ∧ Ext H H2) E0) :
    wpAny (model X.prog X.w) A (eqBool u (.ref d)) (fun r s' => r = false ∧ ∃ H', Inv X pins σ H' s' ∧ Ext H H') X.xe s := by
  obtain ⟨mA, Oj, _⟩ := ins_get I.hok hd
  obtain ⟨od, J, _⟩ := Oj.look
  obtain ⟨m, hF⟩ := I.fr
  have own : ∀ tk, wpAny (model X.prog X.w) A (call (.ref f) [.ref d, u]) (PySem.W.CmpBack fun v s' => ∃ r, v = .bool r ∧ (r = false ∧ ∃ H', Inv X pins σ H' s' ∧ Ext H H')) X.xe { s with toks := tk } := by
    intro tk
    have I1 := I.tok tk
    have e0 : Env0 X.prog X.w X.K X.mg X.base A X.stack { s with toks := tk } H := by
      have e := I1.env0
      exact ⟨by rw [fr]; exact e.frames, e.mod, e.bs, e.bsz, e.funs, e.frf, e.hok, e.bare⟩
    refine wpAny_mono (run_at (us := [.ref d, u]) (vs := [.ref d, y]) F hr b pass0 I1 e0 (.cons rfl (.cons ry .nil)) q) (fun w s' z => ?_) fun _ _ z => z
    obtain ⟨v, H', I', r, ev, ex⟩ := z
    subst ev
    cases (show w = Value.bool false from r)
    exact ⟨false, rfl, rfl, H', I', ex⟩
  have hu := hr.room.units0
  cases o with
  | int i =>
    obtain ⟨t, rfl⟩ := (show ∃ t, u = Value.int i t from ry)
    exact eqBool_anyG rfl (rcmp_K hu hF I.ok.mod.kin J (typeIs_int s i t) rfl PySem.F.slot_int_eq O.si hm hf (int_eq_inst J rfl fun tk => ⟨rfl, rfl, own tk⟩))
  | str z =>
    obtain ⟨t, rfl⟩ := (show ∃ t, u = Value.str z t from ry)
    exact eqBool_anyG rfl (rcmp_K hu hF I.ok.mod.kin J (typeIs_str s z t) rfl PySem.F.slot_str_eq O.ss hm hf (str_eq_inst J rfl fun tk => ⟨rfl, rfl, own tk⟩))
  | non =>
    cases (show u = Value.none from ry)
    exact eqBool_anyG rfl (rcmp_K hu hF I.ok.mod.kin J (show s.TypeIs .none "NoneType" from rfl) rfl PySem.F.slot_NoneType_eq O.sn hm hf (none_eq_inst fun tk => ⟨rfl, rfl, own tk⟩))
  | @lst a xs h =>
    cases (show u = Value.ref a from ry)
    obtain ⟨_, its, n, _, h1⟩ := (show ObjOk X.prog X.w H s.heap a (.lst xs) from I.hok a _ h)
    have nad : a ≠ d := ne_of h hd (by intro z; cases z)
    exact eqBool_anyG (by simpa using nad) (rcmp_K hu hF I.ok.mod.kin J ⟨_, h1, rfl⟩ rfl PySem.F.slot_list_eq O.sl hm hf (list_eq_inst I.kIn J O.ml h1 fun tk => ⟨rfl, rfl, own tk⟩))
  | @tup a xs h =>
    cases (show u = Value.ref a from ry)
    obtain ⟨_, its, _, ob, h1, h2, _⟩ := (show ObjOk X.prog X.w H s.heap a (.tup xs) from I.hok a _ h)
    have nad : a ≠ d := ne_of h hd (by intro z; cases z)
    exact eqBool_anyG (by simpa using nad) (rcmp_K hu hF I.ok.mod.kin J ⟨ob, h1, h2⟩ rfl PySem.F.slot_tuple_eq O.st hm hf (tuple_eq_inst (items := #[]) I.kIn J O.mt ⟨ob, h1, h2⟩ fun tk => ⟨rfl, rfl, own tk⟩))
/-- o in [..], none of its items an instance, each of them unequal by the own == -/
def rInOdd (C : Addr) (sp : Sp) : R2 := fun x y H Q => ∃ d dx fs a xs, x = .ref d ∧ y = .ref a ∧ H d = some (.ins C dx fs) ∧ H a = some (.lst xs) ∧ (∀ z ∈ xs, OddV H z) ∧
  (∀ z ∈ xs, ∀ H', Ext H H' → sp [.ref d, z] H' (fun v H2 => v = .bl false ∧ Ext H' H2) E0) ∧ ∀ H', Ext H H' → Q (.bl false) H'
theorem ow_inOdd (c : MetF X.prog X.w X.K X.mg X.base k C "__eq__" ps sp) (O : OddC X.K C) (hr : RoomG j X.A) (hk : k + 1 ≤ j := by decide) : OpR X (compareOp .In) (rInOdd C sp) := by
  obtain ⟨f, fd, F, hm, hf, kp, b, _⟩ := c.ex
  intro pins s σ H x y v u Q I rx ry h
  obtain ⟨d, dx, fs, a, xs, rfl, rfl, hd, ha, odd, own, q⟩ := h
  cases (show v = Value.ref d from rx)
  cases (show u = Value.ref a from ry)
  refine in_listF (N := xs.length) (fun _ s' => ∃ H', Inv X pins σ H' s' ∧ Ext H H') (fun i s' z => ?_) (fun s' z => ?_) ⟨H, I, Ext.rfl'⟩
  · obtain ⟨H1, I1, e1⟩ := z
    obtain ⟨zz, its, n, r, e⟩ := I1.hok a _ (e1 _ _ ha)
    refine ⟨its.toArray, n, e, by rw [List.size_toArray, ← r.length], fun hlt => ?_⟩
    have hi : i < its.length := by simpa using hlt
    have hx : i < xs.length := by rw [r.length]; exact hi
    obtain ⟨w, hw, rw'⟩ := r.get (List.getElem?_eq_getElem hx)
    have ew : its.toArray[i] = w := by
      have z : its[i]? = some its.toArray[i] := by rw [List.getElem?_eq_getElem hi]; simp
      rw [z] at hw
      exact Option.some.inj hw
    rw [ew]
    have mem : xs[i] ∈ xs := List.getElem_mem hx
    refine wpAny_mono (odd_eq F O ((hr.mono hk).in1) hm hf b rfl I1 rw' (e1 _ _ hd) ((odd _ mem).ext e1) (own _ mem H1 e1)) (fun r s2 z => ?_) fun _ _ z => z
    obtain ⟨er, H2, I2, e2⟩ := z
    exact ⟨er, H2, I2, e1.trans e2⟩
  · obtain ⟨H1, I1, e1⟩ := z
    exact ⟨.bl false, H1, I1, rfl, q H1 e1⟩
end
end OL

set_option Elab.async false
set_option linter.all false
set_option maxRecDepth 100000
set_option maxHeartbeats 1000000
namespace OL
open PySem PySem.Spec PyProof.Rows L2
/-! ### kinds of values -/
theorem kit_own {K : PySem.W.Frag} {C : Addr} {T : String} {b : Bool} (h : PySem.W.subIn K (.ref C) (.type T) = some b) (hk : PySem.W.kitMeta T = true := by decide +kernel) : PySem.W.kitOne K (.ref C) (.type T) = some b := by
  unfold PySem.W.kitOne
  rw [if_neg (by simp)]
  show (if PySem.W.kitMeta T = true then _ else _) = _
  rw [if_pos hk]
  exact h
theorem kit_to {K : PySem.W.Frag} {C : Addr} {T : String} {b : Bool} (hc : PySem.W.isClsIn K C = true) (ht : PySem.W.typeIn K (.ref C) = some (.type "type")) (h : PySem.W.subIn K (.type T) (.ref C) = some b) : PySem.W.kitOne K (.type T) (.ref C) = some b := by
  unfold PySem.W.kitOne
  rw [if_neg (by simp)]
  show (if ((PySem.W.clsIn K C).isSome && PySem.W.typeIn K (.ref C) == some (.type "type")) = true then _ else _) = _
  rw [if_pos (by rw [ht, show (PySem.W.clsIn K C).isSome = true from hc]; decide)]
  exact h
/-- what is_int answers of a value -/
inductive Knd (K : PySem.W.Frag) (H : Hp) : V → Bool → Prop
  | int (i : Int) : Knd K H (.int i) true
  | bl (b : Bool) : Knd K H (.bl b) false
  | oth {v : V} {t : Value} : TyX K H v t → PySem.W.kitOne K t (.type "int") = some false → Knd K H v false
theorem Knd.non {K : PySem.W.Frag} {H : Hp} : Knd K H .non false := .oth (.base .non) (kit_ty (a := "NoneType") (b := "int") (r := false) (by decide +kernel))
theorem Knd.str {K : PySem.W.Frag} {H : Hp} (z : Str) : Knd K H (.str z) false := .oth (.base (.str z)) (kit_ty (a := "str") (b := "int") (r := false) (by decide +kernel))
theorem Knd.lst {K : PySem.W.Frag} {H : Hp} {a : Addr} {xs : List V} (h : H a = some (.lst xs)) : Knd K H (.ref a) false := .oth (.base (.lst h)) (kit_ty (a := "list") (b := "int") (r := false) (by decide +kernel))
theorem Knd.tup {K : PySem.W.Frag} {H : Hp} {a : Addr} {xs : List V} (h : H a = some (.tup xs)) : Knd K H (.ref a) false := .oth (.base (.tup h)) (kit_ty (a := "tuple") (b := "int") (r := false) (by decide +kernel))
theorem Knd.dK {K : PySem.W.Frag} {H : Hp} {a : Addr} {kvs : List (Key × V)} (h : H a = some (.dK kvs)) : Knd K H (.ref a) false := .oth (.base (.dK h)) (kit_ty (a := "dict") (b := "int") (r := false) (by decide +kernel))
theorem Knd.ins {K : PySem.W.Frag} {H : Hp} {a C dx : Addr} {fs : List (Str × V)} (h : H a = some (.ins C dx fs)) (cl : Cls K C) (i : IsT K C) (s : PySem.W.subIn K (.ref C) (.type "int") = some false) : Knd K H (.ref a) false :=
  .oth (.base (.ins h cl i.ha i.hn i.htk i.hm)) (kit_own s)
theorem Knd.isInt {K : PySem.W.Frag} {H : Hp} {v : V} (k : Knd K H v true) : ∃ i, v = .int i := by
  cases k with
  | int i => exact ⟨i, rfl⟩
theorem Knd.noInt {K : PySem.W.Frag} {H : Hp} {v : V} (k : Knd K H v false) : ∀ i, v ≠ .int i := by
  intro i e
  subst e
  cases k with
  | oth ty n =>
    cases ty with
    | base b =>
      cases b with
      | int i =>
        rw [kit_ii] at n
        cases n
def isNum1 : V → Bool
  | .int n => decide (1 ≤ n ∧ n ≤ 1000000000000)
  | _ => false
def isNum0 : V → Bool
  | .int n => decide (0 ≤ n ∧ n ≤ 1000000000000)
  | _ => false
def isMom : V → Bool
  | .int n => decide (-(10 ^ 60) < n ∧ n < 10 ^ 60)
  | _ => false
def inDay (n : Int) : V → Bool
  | .int x => decide (0 ≤ x ∧ x < n)
  | _ => false
theorem noInt_false {f : V → Bool} (hf : ∀ v, (∀ i, v ≠ .int i) → f v = false) {K : PySem.W.Frag} {H : Hp} {v : V} (k : Knd K H v false) : f v = false := hf v k.noInt
theorem isNum1_no {v : V} (h : ∀ i, v ≠ .int i) : isNum1 v = false := by cases v <;> first | rfl | exact absurd rfl (h _)
theorem isNum0_no {v : V} (h : ∀ i, v ≠ .int i) : isNum0 v = false := by cases v <;> first | rfl | exact absurd rfl (h _)
theorem isMom_no {v : V} (h : ∀ i, v ≠ .int i) : isMom v = false := by cases v <;> first | rfl | exact absurd rfl (h _)
theorem inDay_no {n : Int} {v : V} (h : ∀ i, v ≠ .int i) : inDay n v = false := by cases v <;> first | rfl | exact absurd rfl (h _)
theorem kit_bi {K : PySem.W.Frag} : PySem.W.kitOne K (.type "bool") (.type "int") = some true := kit_ty (a := "bool") (b := "int") (r := true) (by decide +kernel)
/-! ### texts of ints -/
theorem int_shown {i : Int} (h : i.natAbs < 10 ^ 200) : (PyData.shown (.int i)).length ≤ 201 := by
  have e := int_text_length_le10 (k := 200) (by decide) h
  show (Str.ofString (toString i)).length ≤ 201
  rw [PySem.ofString_length]
  exact e
theorem int_showable {i : Int} (h : i.natAbs < 10 ^ 200) : PyData.showable (.int i) = true := by
  have e : i.natAbs.log2 < 1920 := by
    by_cases z : i.natAbs = 0
    · rw [z]; decide
    · exact (Nat.log2_lt z).mpr (Nat.lt_of_lt_of_le h (by decide +kernel))
  simp only [PyData.showable, decide_eq_true_eq]
  exact e
theorem shown_ints : ∀ {ns : List Int}, (∀ i ∈ ns, i.natAbs < 10 ^ 200) → PyData.showableAll (ns.map PyData.int) = true ∧ PyData.depthAll (ns.map PyData.int) = 0 ∧ PyData.hasDictAll (ns.map PyData.int) = false ∧
    ((PyData.shownAll (ns.map PyData.int)).map (·.length)).sum ≤ 201 * ns.length ∧ (PyData.shownAll (ns.map PyData.int)).length = ns.length
  | [], _ => ⟨rfl, rfl, rfl, Nat.le_refl _, rfl⟩
  | n :: r, h => by
    obtain ⟨h1, h2, h3, h4, h5⟩ := shown_ints (ns := r) fun i hi => h i (List.mem_cons_of_mem _ hi)
    have hn := h n List.mem_cons_self
    have e := int_shown hn
    refine ⟨?_, ?_, ?_, ?_, ?_⟩
    · simp only [List.map_cons, PyData.showableAll, h1, int_showable hn, Bool.and_self]
    · simp only [List.map_cons, PyData.depthAll, PyData.depth, h2, Nat.max_self]
    · simp only [List.map_cons, PyData.hasDictAll, PyData.hasDict, h3, Bool.or_self]
    · simp only [List.map_cons, PyData.shownAll, List.sum_cons, List.length_cons]
      omega
    · simp only [List.map_cons, PyData.shownAll, List.length_cons, h5]
theorem Shw.ints {ns : List Int} (h : ∀ i ∈ ns, i.natAbs < 10 ^ 200) (hl : ns.length ≤ 2000) : Shw (.list (ns.map PyData.int)) := by
  obtain ⟨h1, h2, h3, h4, h5⟩ := shown_ints h
  refine ⟨?_, ?_, ?_, ?_⟩
  · simpa only [PyData.showable] using h1
  · simp only [PyData.depth, h2]
    omega
  · simpa only [PyData.hasDict] using h3
  · have e := listText_len_le (PyData.shownAll (ns.map PyData.int))
    have e2 : (PyData.shown (.list (ns.map PyData.int))).length = (listText (PyData.shownAll (ns.map PyData.int))).length := by simp only [PyData.shown]
    rw [e2, sizeLine_eq]
    omega
theorem Shw.two {a b : Int} (ha : a.natAbs < 10 ^ 200) (hb : b.natAbs < 10 ^ 200) : Shw (.list [.int a, .int b]) := Shw.ints (ns := [a, b]) (fun i hi => by
  simp only [List.mem_cons, List.not_mem_nil, or_false] at hi
  rcases hi with rfl | rfl <;> assumption) (by simp)
end OL

namespace OL
open PySem PySem.Spec PyProof.Rows L2
/-- an int constant of a class, read at the class -/
structure IntC (K : PySem.W.Frag) (C : Addr) (f : Str) (n : Int) : Prop where
  ex : ∃ t, PySem.W.findCls K (.ref C) (.type "type") f = some (.val (.int n t))
theorem IntC.of {K : PySem.W.Frag} {C : Addr} {f : Str} {n : Int} {t : Tok} (e : PySem.W.findCls K (.ref C) (.type "type") f = some (.val (.int n t))) : IntC K C f n := ⟨t, e⟩
theorem divmod_of {q s r : Int} (h0 : 0 ≤ r) (h1 : r < s) : (q * s + r) % s = r ∧ (q * s + r) / s = q := by
  have hs : 0 < s := by omega
  constructor
  · rw [Int.add_comm, Int.add_mul_emod_self_right]
    exact Int.emod_eq_of_lt h0 h1
  · rw [Int.add_comm, Int.add_mul_ediv_right _ _ (by omega), Int.ediv_eq_zero_of_lt h0 h1]
    omega
end OL

namespace OL
open PySem PySem.Spec PyProof.Rows L2
theorem strOk_of (s : String) : PyData.canLay0 (.str (Str.ofString s)) = true := by
  rw [PySem.Str.ofString_eq_toList]
  show ((s.toList.map Char.toNat).toArray.all fun c => decide (c < 0x110000)) = true
  rw [List.all_toArray, List.all_map, List.all_eq_true]
  intro c _
  have h := c.valid
  simp only [Function.comp_apply, decide_eq_true_eq]
  show c.val.toNat < 0x110000
  rcases h with h | ⟨_, h⟩
  · have : c.val.toNat < 0xd800 := h
    omega
  · exact h
end OL

namespace OL
open PySem PySem.Spec PyProof.Rows L2
/-- built-in kinds are not below the class -/
structure OddK (K : PySem.W.Frag) (C : Addr) : Prop where
  ic : PySem.W.isClsIn K C = true
  ty : PySem.W.typeIn K (.ref C) = some (.type "type")
  i : PySem.W.subIn K (.type "int") (.ref C) = some false
  s : PySem.W.subIn K (.type "str") (.ref C) = some false
  n : PySem.W.subIn K (.type "NoneType") (.ref C) = some false
  l : PySem.W.subIn K (.type "list") (.ref C) = some false
  t : PySem.W.subIn K (.type "tuple") (.ref C) = some false
end OL

namespace OL
open PySem PySem.Spec PyProof.Rows L2
theorem int_log2 {i : Int} (h : i.natAbs < 10 ^ 200) : i.natAbs.log2 < 1920 := by
  have e := int_showable h
  simpa only [PyData.showable, decide_eq_true_eq] using e
theorem div_mul_mod (x s : Int) : x / s * s + x % s = x := by
  have h := Int.emod_def x s
  rw [Int.mul_comm] at h
  omega
theorem whole_days {w s : Int} (hs : 0 < s) : (w - w % s) / s * s = w - w % s := by
  have h := div_mul_mod w s
  have e : w - w % s = w / s * s := by omega
  rw [e, Int.mul_ediv_cancel _ (by omega)]
end OL

namespace OL
open PySem PySem.Spec PyProof.Rows L2
theorem _root_.L2.TyX.same {K : PySem.W.Frag} {H H' : Hp} {v : V} {t : Value} (y : TyX K H v t) (s : Same H H') : TyX K H' v t := by
  cases y with
  | base b =>
    refine .base ?_
    cases b with
    | non => exact .non
    | bl x => exact .bl x
    | int i => exact .int i
    | str x => exact .str x
    | flt x => exact .flt x
    | lst e => exact .lst (s _ _ e)
    | frz e => exact .frz (s _ _ e)
    | tup e => exact .tup (s _ _ e)
    | dK e => exact .dK (s _ _ e)
    | dT e => exact .dT (s _ _ e)
    | ins e cl ha hn htk hm => exact .ins (s _ _ e) cl ha hn htk hm
  | byt b => exact .byt b
  | set e => exact .set (s _ _ e)
  | kList e c => exact .kList e c
  | kTuple e c => exact .kTuple e c
  | kDict e c => exact .kDict e c
  | fTuple e => exact .fTuple (s _ _ e)
  | fDict e => exact .fDict (s _ _ e)
theorem Knd.same {K : PySem.W.Frag} {H H' : Hp} {v : V} {b : Bool} (k : Knd K H v b) (s : Same H H') : Knd K H' v b := by
  cases k with
  | int i => exact .int i
  | bl x => exact .bl x
  | oth y n => exact .oth (y.same s) n
theorem _root_.L2.Same.new1 {H : Hp} {q : Addr} {o : HO} (n : H q = none) : Same H (upd H q o) := fun b u e => by rw [upd_ne (ne_of_none e n)]; exact e
theorem _root_.L2.Same.new2 {H : Hp} {q : Addr} {o o' : HO} (n : H q = none) : Same H (upd (upd H q o) q o') := fun b u e => by rw [upd_ne (ne_of_none e n), upd_ne (ne_of_none e n)]; exact e
end OL

namespace OL
open PySem PySem.Spec PyProof.Rows L2
theorem inDay_out {n x : Int} (h : ¬ (0 ≤ x ∧ x < n)) : inDay n (.int x) = false := decide_eq_false h
theorem kit_odd {K : PySem.W.Frag} {H : Hp} {C : Addr} {v : V} (o : OddV H v) (k : OddK K C) : ∃ t, TyX K H v t ∧ PySem.W.kitOne K t (.ref C) = some false := by
  cases o with
  | int i => exact ⟨_, .base (.int i), kit_to k.ic k.ty k.i⟩
  | str z => exact ⟨_, .base (.str z), kit_to k.ic k.ty k.s⟩
  | non => exact ⟨_, .base .non, kit_to k.ic k.ty k.n⟩
  | lst h => exact ⟨_, .base (.lst h), kit_to k.ic k.ty k.l⟩
  | tup h => exact ⟨_, .base (.tup h), kit_to k.ic k.ty k.t⟩
end OL

namespace OL
open PySem PySem.Spec PyProof.Rows L2
theorem shaped_sii (s : String) (a b : Int) : SeqAt.shaped (.list [.str (Str.ofString s), .int a, .int b]) = true := by
  have h := strOk_of s
  unfold SeqAt.shaped
  simp only [PyData.canLay0, PyData.canLayAll0, PyData.depth, PyData.depthAll, Bool.and_true] at h ⊢
  rw [h]
  simp
theorem eqv_shaped {d : PyData} (h : SeqAt.shaped d = true) : PyData.eqv d d = true := SeqAt.eqv_refl d (SeqAt.canLay_of_shaped h)
end OL

set_option Elab.async false
set_option linter.all false
set_option maxRecDepth 100000
set_option maxHeartbeats 1000000
namespace OL
open PySem PySem.Spec PyProof.Rows L2
/-! ### o == v, v of any known type -/
theorem ow_eqV {X : Cx} {j k : Nat} {C : Addr} {ps : List Str} {sp : Sp} (c : MetF X.prog X.w X.K X.mg X.base k C "__eq__" ps sp) (hr : RoomG j X.A) (hk : k ≤ j := by decide) : OpR X (compareOp .Eq) (rOwnEqV X.K C sp) := by
  obtain ⟨f, fd, F, hm, hf, kp, b, _⟩ := c.ex
  intro pins s σ H x y v u Q I rx ry h
  obtain ⟨a, dx, fs, t, rfl, ha, ty, hn, q⟩ := h
  cases (show v = Value.ref a from rx)
  obtain ⟨mA, O, _⟩ := ins_get I.hok ha
  obtain ⟨od, J, _⟩ := O.look
  obtain ⟨P, Z, hP, _⟩ := kit_of I ry ty
  obtain ⟨m, hF⟩ := I.fr
  show wpAny (model X.prog X.w) X.A (richCompare .Eq _ _) _ _ _
  refine PySem.W.cmp_K (op := .Eq) (tb := t) (hr.mono hk).room.units0 hF I.ok.mod.kin J (Z.ty _ _ I.kIn hP) hn hm hf ?_
  exact wpAny_mono (run_g (us := [.ref a, u]) (vs := [.ref a, y]) F (hr.mono hk) b pass0 I (.cons rfl (.cons ry .nil)) q) (fun w s' z => back_ep z) fun _ _ z => z
/-- the same within a comprehension -/
theorem ow_eqW {X : Cx} {K : PySem.W.Frag} {j k : Nat} {C : Addr} {ps : List Str} {sp : Sp} (c : MetF X.prog X.w K X.mg X.base k C "__eq__" ps sp) (hr : RoomG j X.A) (hk : k ≤ j := by decide) (hK : X.K = K := by rfl) : OpR X (compareOp .Eq) (rOwnEqV K C sp) := by
  subst hK
  exact ow_eqV c hr hk
/-! ### an own class below another own one -/
theorem kit_cc {K : PySem.W.Frag} {C D : Addr} {b : Bool} (hc : PySem.W.isClsIn K D = true) (ht : PySem.W.typeIn K (.ref D) = some (.type "type")) (h : PySem.W.subIn K (.ref C) (.ref D) = some b) (ne : C ≠ D) : PySem.W.kitOne K (.ref C) (.ref D) = some b := by
  unfold PySem.W.kitOne
  rw [if_neg (by simp only [beq_iff_eq]; intro z; cases z; exact ne rfl)]
  show (if ((PySem.W.clsIn K D).isSome && PySem.W.typeIn K (.ref D) == some (.type "type")) = true then _ else _) = _
  rw [if_pos (by rw [ht, show (PySem.W.clsIn K D).isSome = true from hc]; decide)]
  exact h
theorem kit_ccT {K : PySem.W.Frag} {C D : Addr} (hc : PySem.W.isClsIn K D = true) (ht : PySem.W.typeIn K (.ref D) = some (.type "type")) (h : PySem.W.subIn K (.ref C) (.ref D) = some true) : PySem.W.kitOne K (.ref C) (.ref D) = some true := by
  by_cases e : C = D
  · subst e
    exact kit_self _
  · exact kit_cc hc ht h e
theorem kit_ccF {K : PySem.W.Frag} {C D : Addr} (hc : PySem.W.isClsIn K D = true) (ht : PySem.W.typeIn K (.ref D) = some (.type "type")) (hs : PySem.W.subIn K (.ref C) (.ref C) = some true) (h : PySem.W.subIn K (.ref C) (.ref D) = some false) : PySem.W.kitOne K (.ref C) (.ref D) = some false :=
  kit_cc hc ht h fun e => by
    subst e
    rw [hs] at h
    cases h
/-! ### flat data -/
theorem depth_flat : ∀ {ds : List PyData}, (∀ d ∈ ds, d.depth = 0) → PyData.depthAll ds = 0
  | [], _ => rfl
  | d :: r, h => by simp only [PyData.depthAll, h d List.mem_cons_self, depth_flat (ds := r) fun x hx => h x (List.mem_cons_of_mem _ hx), Nat.max_self]
theorem lay_flat : ∀ {ds : List PyData}, (∀ d ∈ ds, d.canLay0 = true) → PyData.canLayAll0 ds = true
  | [], _ => rfl
  | d :: r, h => by simp only [PyData.canLayAll0, h d List.mem_cons_self, lay_flat (ds := r) fun x hx => h x (List.mem_cons_of_mem _ hx), Bool.and_self]
theorem shaped_flat {ds : List PyData} (h : ∀ d ∈ ds, d.canLay0 = true ∧ d.depth = 0) : SeqAt.shaped (.list ds) = true := by
  unfold SeqAt.shaped
  simp only [PyData.canLay0, PyData.depth, lay_flat fun d hd => (h d hd).1, depth_flat fun d hd => (h d hd).2, Bool.true_and]
  rfl
theorem shown_flat : ∀ {ds : List PyData}, (∀ d ∈ ds, d.showable = true ∧ d.depth = 0 ∧ d.hasDict = false ∧ d.shown.length ≤ 250) → PyData.showableAll ds = true ∧ PyData.hasDictAll ds = false ∧
    ((PyData.shownAll ds).map (·.length)).sum ≤ 250 * ds.length ∧ (PyData.shownAll ds).length = ds.length
  | [], _ => ⟨rfl, rfl, Nat.le_refl _, rfl⟩
  | d :: r, h => by
    obtain ⟨h1, h3, h4, h5⟩ := shown_flat (ds := r) fun i hi => h i (List.mem_cons_of_mem _ hi)
    obtain ⟨a1, a2, a3, a4⟩ := h d List.mem_cons_self
    refine ⟨?_, ?_, ?_, ?_⟩
    · simp only [PyData.showableAll, h1, a1, Bool.and_self]
    · simp only [PyData.hasDictAll, h3, a3, Bool.or_self]
    · simp only [PyData.shownAll, List.map_cons, List.sum_cons, List.length_cons]
      omega
    · simp only [PyData.shownAll, List.length_cons, h5]
theorem Shw.flat {ds : List PyData} (h : ∀ d ∈ ds, d.showable = true ∧ d.depth = 0 ∧ d.hasDict = false ∧ d.shown.length ≤ 250) (hl : ds.length ≤ 2000) : Shw (.list ds) := by
  obtain ⟨h1, h3, h4, h5⟩ := shown_flat h
  have h2 := depth_flat fun d hd => (h d hd).2.1
  refine ⟨?_, ?_, ?_, ?_⟩
  · simpa only [PyData.showable] using h1
  · simp only [PyData.depth, h2]
    omega
  · simpa only [PyData.hasDict] using h3
  · have e := listText_len_le (PyData.shownAll ds)
    have e2 : (PyData.shown (.list ds)).length = (listText (PyData.shownAll ds)).length := by simp only [PyData.shown]
    rw [e2, sizeLine_eq]
    omega
theorem eqv_strs : ∀ xs ys : List Str, PyData.eqvAll (xs.map PyData.str) (ys.map PyData.str) = decide (xs = ys)
  | [], [] => rfl
  | [], _ :: _ => by simp [PyData.eqvAll]
  | _ :: _, [] => by simp [PyData.eqvAll]
  | x :: xs, y :: ys => by
    simp only [List.map_cons, PyData.eqvAll, PyData.eqv, eqv_strs xs ys]
    by_cases e : x = y <;> by_cases e2 : xs = ys <;> simp [e, e2]
theorem dp_strs {K : PySem.W.Frag} {H : Hp} : ∀ ys : List Str, DpAll K H (ys.map V.str) (ys.map PyData.str)
  | [] => .nil
  | y :: r => .cons (.str y) (dp_strs r)
/-! ### texts of numbers -/
theorem str_num_inj {i j : Int} (hi : 0 ≤ i) (hj : 0 ≤ j) (h : Str.ofString (toString i) = Str.ofString (toString j)) : i = j := by
  obtain ⟨m, rfl⟩ := Int.eq_ofNat_of_zero_le hi
  obtain ⟨n, rfl⟩ := Int.eq_ofNat_of_zero_le hj
  have e : TL.tl (Str.ofString (toString ((m : Nat) : Int))) = TL.tl (Str.ofString (toString ((n : Nat) : Int))) := congrArg TL.tl h
  rw [TL.tl_num, TL.tl_num] at e
  rw [TL.numL_inj e]
/-! ### names -/
def nm (z : Str) : Bool := Txt.isascii z && Txt.isalpha z && Txt.islower z && decide (z.length ≤ 8) && PyData.canLay0 (.str z) && PyData.showable (.str z) && decide ((PyData.shown (.str z)).length ≤ 250)
/-! ### what a trip is made of -/
structure TD where
  n : Str
  s : Str
  l : Int
  t : Int
  g : Str
deriving DecidableEq
def TD.ok (d : TD) : Prop := nm d.n = true ∧ nm d.s = true ∧ nm d.g = true ∧ (0 ≤ d.l ∧ d.l ≤ 1000000000000) ∧ (1 ≤ d.t ∧ d.t ≤ 1000000000000)
def tdV (d : TD) : List V := [.str d.n, .str d.s, .int d.l, .int d.t, .str d.g]
def tdP (d : TD) : List PyData := [.str d.n, .str d.s, .int d.l, .int d.t, .str d.g]
def tdV4 (d : TD) : List V := [.str d.n, .str d.s, .int d.l, .int d.t]
def tdP4 (d : TD) : List PyData := [.str d.n, .str d.s, .int d.l, .int d.t]
def wordsR (d : TD) : List Str := ["run", d.n, d.s, Str.ofString (toString d.l), Str.ofString (toString d.t), d.g]
def wordsS (d : TD) : List Str := ["stay", d.n, d.s, Str.ofString (toString d.l), Str.ofString (toString d.t)]
def trF (d : TD) : List (Str × V) := putF "goal" (.str d.g) (putF "takes" (.int d.t) (putF "leaves" (.int d.l) (putF "start" (.str d.s) (putF "name" (.str d.n) []))))
theorem trF_len (d : TD) : (trF d).length = 5 := rfl
theorem trF_n (d : TD) : (trF d).lookup ("name" : Str) = some (.str d.n) := by
  simp only [trF, lookup_putF]
  rw [if_neg (by decide +kernel), if_neg (by decide +kernel), if_neg (by decide +kernel), if_neg (by decide +kernel), if_pos trivial]
theorem trF_s (d : TD) : (trF d).lookup ("start" : Str) = some (.str d.s) := by
  simp only [trF, lookup_putF]
  rw [if_neg (by decide +kernel), if_neg (by decide +kernel), if_neg (by decide +kernel), if_pos trivial]
theorem trF_l (d : TD) : (trF d).lookup ("leaves" : Str) = some (.int d.l) := by
  simp only [trF, lookup_putF]
  rw [if_neg (by decide +kernel), if_neg (by decide +kernel), if_pos trivial]
theorem trF_t (d : TD) : (trF d).lookup ("takes" : Str) = some (.int d.t) := by
  simp only [trF, lookup_putF]
  rw [if_neg (by decide +kernel), if_pos trivial]
theorem trF_g (d : TD) : (trF d).lookup ("goal" : Str) = some (.str d.g) := by
  simp only [trF, lookup_putF]
  rw [if_pos trivial]
theorem trF_no (d : TD) {m : Str} (h : ¬ (m = "name" ∨ m = "start" ∨ m = "leaves" ∨ m = "takes" ∨ m = "goal")) : (trF d).lookup m = none := by
  simp only [not_or] at h
  simp only [trF, lookup_putF, if_neg h.1, if_neg h.2.1, if_neg h.2.2.1, if_neg h.2.2.2.1, if_neg h.2.2.2.2, List.lookup]
theorem nm_all {z : Str} (h : nm z = true) : Txt.isascii z = true ∧ Txt.isalpha z = true ∧ Txt.islower z = true ∧ z.length ≤ 8 ∧ PyData.canLay0 (.str z) = true ∧ PyData.showable (.str z) = true ∧ (PyData.shown (.str z)).length ≤ 250 := by
  simp only [nm, Bool.and_eq_true, decide_eq_true_eq] at h
  obtain ⟨⟨⟨⟨⟨⟨h1, h2⟩, h3⟩, h4⟩, h5⟩, h6⟩, h7⟩ := h
  exact ⟨h1, h2, h3, h4, h5, h6, h7⟩
theorem num_small {i : Int} (h : 0 ≤ i ∧ i ≤ 1000000000000) : i.natAbs < 10 ^ 200 := by
  have : i.natAbs ≤ 1000000000000 := by omega
  exact Nat.lt_of_le_of_lt this (by decide +kernel)
theorem num_text_len {i : Int} (h : 0 ≤ i ∧ i ≤ 1000000000000) : (Str.ofString (toString i)).length ≤ 14 := by
  have e := int_text_length_le10 (a := i) (k := 13) (by decide) (by omega)
  rw [PySem.ofString_length]
  omega
theorem TD.flat {d : TD} (h : d.ok) : ∀ x ∈ tdP d, (x.canLay0 = true ∧ x.depth = 0) ∧ (x.showable = true ∧ x.depth = 0 ∧ x.hasDict = false ∧ x.shown.length ≤ 250) := by
  obtain ⟨h1, h2, h3, h4, h5⟩ := h
  have a1 := nm_all h1
  have a2 := nm_all h2
  have a3 := nm_all h3
  have b4 := num_small h4
  have b5 := num_small (i := d.t) ⟨by omega, by omega⟩
  intro x hx
  simp only [tdP, List.mem_cons, List.not_mem_nil, or_false] at hx
  rcases hx with rfl | rfl | rfl | rfl | rfl
  · exact ⟨⟨a1.2.2.2.2.1, rfl⟩, a1.2.2.2.2.2.1, rfl, rfl, a1.2.2.2.2.2.2⟩
  · exact ⟨⟨a2.2.2.2.2.1, rfl⟩, a2.2.2.2.2.2.1, rfl, rfl, a2.2.2.2.2.2.2⟩
  · exact ⟨⟨rfl, rfl⟩, int_showable b4, rfl, rfl, Nat.le_trans (int_shown b4) (by decide)⟩
  · exact ⟨⟨rfl, rfl⟩, int_showable b5, rfl, rfl, Nat.le_trans (int_shown b5) (by decide)⟩
  · exact ⟨⟨a3.2.2.2.2.1, rfl⟩, a3.2.2.2.2.2.1, rfl, rfl, a3.2.2.2.2.2.2⟩
theorem TD.shw {d : TD} (h : d.ok) : Shw (.list (tdP d)) := Shw.flat (fun x hx => (TD.flat h x hx).2) (by show 5 ≤ 2000; decide)
theorem TD.shp {d : TD} (h : d.ok) : SeqAt.shaped (.list (tdP d)) = true := shaped_flat fun x hx => (TD.flat h x hx).1
theorem TD.shp4 {d : TD} (h : d.ok) : SeqAt.shaped (.list (tdP4 d)) = true := shaped_flat fun x hx => (TD.flat h x (by
  simp only [tdP, tdP4, List.mem_cons, List.not_mem_nil, or_false] at hx ⊢
  rcases hx with h | h | h | h <;> simp [h])).1
theorem TD.eqv (d e : TD) : PyData.eqv (.list (tdP d)) (.list (tdP e)) = decide (d = e) := by
  obtain ⟨n, s, l, t, g⟩ := d
  obtain ⟨n', s', l', t', g'⟩ := e
  rw [Bool.eq_iff_iff]
  simp [tdP, PyData.eqv, PyData.eqvAll]
theorem TD.eqv4 {d e : TD} (hd : d.g = d.s) (he : e.g = e.s) : PyData.eqv (.list (tdP4 d)) (.list (tdP4 e)) = decide (d = e) := by
  obtain ⟨n, s, l, t, g⟩ := d
  obtain ⟨n', s', l', t', g'⟩ := e
  cases (show g = s from hd)
  cases (show g' = s' from he)
  rw [Bool.eq_iff_iff]
  simp [tdP4, PyData.eqv, PyData.eqvAll]
  exact fun _ a _ _ => a
theorem wordsR_iff {d e : TD} (hd : d.ok) (he : e.ok) : wordsR d = wordsR e ↔ d = e := by
  constructor
  · intro h
    obtain ⟨n, s, l, t, g⟩ := d
    obtain ⟨n', s', l', t', g'⟩ := e
    simp only [wordsR, List.cons.injEq, and_true, true_and] at h
    obtain ⟨h1, h2, h3, h4, h5⟩ := h
    have a : (0 ≤ l ∧ l ≤ 1000000000000) ∧ (1 ≤ t ∧ t ≤ 1000000000000) := hd.2.2.2
    have b : (0 ≤ l' ∧ l' ≤ 1000000000000) ∧ (1 ≤ t' ∧ t' ≤ 1000000000000) := he.2.2.2
    have e3 : l = l' := str_num_inj a.1.1 b.1.1 h3
    have e4 : t = t' := str_num_inj (by have := a.2.1; omega) (by have := b.2.1; omega) h4
    rw [h1, h2, e3, e4, h5]
  · intro h
    rw [h]
theorem wordsS_iff {d e : TD} (hd : d.ok) (he : e.ok) (gd : d.g = d.s) (ge : e.g = e.s) : wordsS d = wordsS e ↔ d = e := by
  constructor
  · intro h
    obtain ⟨n, s, l, t, g⟩ := d
    obtain ⟨n', s', l', t', g'⟩ := e
    cases (show g = s from gd)
    cases (show g' = s' from ge)
    simp only [wordsS, List.cons.injEq, and_true, true_and] at h
    obtain ⟨h1, h2, h3, h4⟩ := h
    have a : (0 ≤ l ∧ l ≤ 1000000000000) ∧ (1 ≤ t ∧ t ≤ 1000000000000) := hd.2.2.2
    have b : (0 ≤ l' ∧ l' ≤ 1000000000000) ∧ (1 ≤ t' ∧ t' ≤ 1000000000000) := he.2.2.2
    have e3 : l = l' := str_num_inj a.1.1 b.1.1 h3
    have e4 : t = t' := str_num_inj (by have := a.2.1; omega) (by have := b.2.1; omega) h4
    rw [h1, h2, e3, e4]
  · intro h
    rw [h]
theorem strs_shp {ys : List Str} (h : ∀ y ∈ ys, PyData.canLay0 (.str y) = true) : SeqAt.shaped (.list (ys.map PyData.str)) = true := shaped_flat fun d hd => by
  obtain ⟨y, hy, rfl⟩ := List.mem_map.mp hd
  exact ⟨h y hy, rfl⟩
theorem wordsR_shp {d : TD} (h : d.ok) : SeqAt.shaped (.list ((wordsR d).map PyData.str)) = true := strs_shp fun y hy => by
  obtain ⟨h1, h2, h3, h4, h5⟩ := h
  simp only [wordsR, List.mem_cons, List.not_mem_nil, or_false] at hy
  rcases hy with rfl | rfl | rfl | rfl | rfl | rfl
  · exact strOk_of _
  · exact (nm_all h1).2.2.2.2.1
  · exact (nm_all h2).2.2.2.2.1
  · exact strOk_of _
  · exact strOk_of _
  · exact (nm_all h3).2.2.2.2.1
theorem wordsS_shp {d : TD} (h : d.ok) : SeqAt.shaped (.list ((wordsS d).map PyData.str)) = true := strs_shp fun y hy => by
  obtain ⟨h1, h2, h3, h4, h5⟩ := h
  simp only [wordsS, List.mem_cons, List.not_mem_nil, or_false] at hy
  rcases hy with rfl | rfl | rfl | rfl | rfl
  · exact strOk_of _
  · exact (nm_all h1).2.2.2.2.1
  · exact (nm_all h2).2.2.2.2.1
  · exact strOk_of _
  · exact strOk_of _
theorem wordsR_len {d : TD} (h : d.ok) : ((wordsR d).map (·.length)).sum + (wordsR d).length * (Str.ofString " ").length ≤ 16777216 := by
  obtain ⟨h1, h2, h3, h4, h5⟩ := h
  have a1 := (nm_all h1).2.2.2.1
  have a2 := (nm_all h2).2.2.2.1
  have a3 := (nm_all h3).2.2.2.1
  have b4 := num_text_len h4
  have b5 := num_text_len (i := d.t) ⟨by omega, by omega⟩
  have c : (Str.ofString "run").length = 3 := by decide +kernel
  have c1 : (Str.ofString " ").length = 1 := by decide +kernel
  simp only [wordsR, List.map_cons, List.map_nil, List.sum_cons, List.sum_nil, List.length_cons, List.length_nil, c, c1]
  omega
theorem wordsS_len {d : TD} (h : d.ok) : ((wordsS d).map (·.length)).sum + (wordsS d).length * (Str.ofString " ").length ≤ 16777216 := by
  obtain ⟨h1, h2, h3, h4, h5⟩ := h
  have a1 := (nm_all h1).2.2.2.1
  have a2 := (nm_all h2).2.2.2.1
  have b4 := num_text_len h4
  have b5 := num_text_len (i := d.t) ⟨by omega, by omega⟩
  have c : (Str.ofString "stay").length = 4 := by decide +kernel
  have c1 : (Str.ofString " ").length = 1 := by decide +kernel
  simp only [wordsS, List.map_cons, List.map_nil, List.sum_cons, List.sum_nil, List.length_cons, List.length_nil, c, c1]
  omega
/-- a trip at a place, of a class -/
def TrAt (C : Addr) (H : Hp) (a : Addr) (d : TD) : Prop := ∃ dx, H a = some (.ins C dx (trF d))
theorem TrAt.but {C p a : Addr} {H H' : Hp} {d : TD} (h : TrAt C H a d) (b : But p H H') (ne : a ≠ p) : TrAt C H' a d := let ⟨dx, e⟩ := h; ⟨dx, b _ _ e ne⟩
theorem TrAt.same {C a : Addr} {H H' : Hp} {d : TD} (h : TrAt C H a d) (b : Same H H') : TrAt C H' a d := let ⟨dx, e⟩ := h; ⟨dx, b _ _ e⟩
/-- what is asked of a class of trips -/
structure TrC (K : PySem.W.Frag) (C : Addr) : Prop where
  cl : Cls K C
  i : IsT K C
  n : PySem.W.findIn K (.ref C) "name" = some none
  s : PySem.W.findIn K (.ref C) "start" = some none
  l : PySem.W.findIn K (.ref C) "leaves" = some none
  t : PySem.W.findIn K (.ref C) "takes" = some none
  g : PySem.W.findIn K (.ref C) "goal" = some none
  ss : PySem.W.subIn K (.ref C) (.ref C) = some true
theorem TrC.ty {K : PySem.W.Frag} {C a dx : Addr} {H : Hp} {fs : List (Str × V)} (c : TrC K C) (h : H a = some (.ins C dx fs)) : TyX K H (.ref a) (.ref C) := .base (.ins h c.cl c.i.ha c.i.hn c.i.htk c.i.hm)
def names13 : List Str := ["a", "b", "p", "run", "stay", "day", "pauses", "zz", "zzzzzzzz", "self", "ab", "abcdefgh", "x"]
theorem names_nm : ∀ z ∈ names13, nm z = true := by decide +kernel
theorem tdV_setS {d : TD} {i : Nat} {z : Str} (ok : d.ok) (hz : nm z = true) (hi : i = 0 ∨ i = 1 ∨ i = 4) : ∃ e : TD, (tdV d).set i (.str z) = tdV e ∧ e.ok := by
  obtain ⟨n, s, l, t, g⟩ := d
  obtain ⟨h1, h2, h3, h4, h5⟩ := ok
  rcases hi with rfl | rfl | rfl
  · exact ⟨⟨z, s, l, t, g⟩, rfl, hz, h2, h3, h4, h5⟩
  · exact ⟨⟨n, z, l, t, g⟩, rfl, h1, hz, h3, h4, h5⟩
  · exact ⟨⟨n, s, l, t, z⟩, rfl, h1, h2, hz, h4, h5⟩
theorem tdV_setI {d : TD} {i : Nat} {x : Int} (ok : d.ok) (hx : 1 ≤ x ∧ x ≤ 1000000000000) (hi : i = 2 ∨ i = 3) : ∃ e : TD, (tdV d).set i (.int x) = tdV e ∧ e.ok := by
  obtain ⟨n, s, l, t, g⟩ := d
  obtain ⟨h1, h2, h3, h4, h5⟩ := ok
  rcases hi with rfl | rfl
  · exact ⟨⟨n, s, x, t, g⟩, rfl, h1, h2, h3, ⟨by show 0 ≤ x; omega, hx.2⟩, h5⟩
  · exact ⟨⟨n, s, l, x, g⟩, rfl, h1, h2, h3, h4, hx⟩
theorem tdV4_setS {d : TD} {i : Nat} {z : Str} (ok : d.ok) (gd : d.g = d.s) (hz : nm z = true) (hi : i = 0 ∨ i = 1) : ∃ e : TD, (tdV4 d).set i (.str z) = tdV4 e ∧ e.ok ∧ e.g = e.s := by
  obtain ⟨n, s, l, t, g⟩ := d
  obtain ⟨h1, h2, h3, h4, h5⟩ := ok
  rcases hi with rfl | rfl
  · exact ⟨⟨z, s, l, t, g⟩, rfl, ⟨hz, h2, h3, h4, h5⟩, gd⟩
  · exact ⟨⟨n, z, l, t, z⟩, rfl, ⟨h1, hz, hz, h4, h5⟩, rfl⟩
theorem tdV4_setI {d : TD} {i : Nat} {x : Int} (ok : d.ok) (gd : d.g = d.s) (hx : 1 ≤ x ∧ x ≤ 1000000000000) (hi : i = 2 ∨ i = 3) : ∃ e : TD, (tdV4 d).set i (.int x) = tdV4 e ∧ e.ok ∧ e.g = e.s := by
  obtain ⟨n, s, l, t, g⟩ := d
  obtain ⟨h1, h2, h3, h4, h5⟩ := ok
  rcases hi with rfl | rfl
  · exact ⟨⟨n, s, x, t, g⟩, rfl, ⟨h1, h2, h3, ⟨by show 0 ≤ x; omega, hx.2⟩, h5⟩, gd⟩
  · exact ⟨⟨n, s, l, x, g⟩, rfl, ⟨h1, h2, h3, h4, hx⟩, gd⟩
theorem cmpR {d e : TD} (hd : d.ok) (he : e.ok) : decide (wordsR d = wordsR e) = PyData.eqv (.list (tdP e)) (.list (tdP d)) := by
  rw [TD.eqv, decide_eq_decide, wordsR_iff hd he]
  exact eq_comm
theorem cmpS {d e : TD} (hd : d.ok) (he : e.ok) (gd : d.g = d.s) (ge : e.g = e.s) : decide (wordsS d = wordsS e) = PyData.eqv (.list (tdP4 e)) (.list (tdP4 d)) := by
  rw [TD.eqv4 ge gd, decide_eq_decide, wordsS_iff hd he gd ge]
  exact eq_comm
theorem ne_same {a b : Bool} (h : a = b) : (!decide (V.bl a = V.bl b)) = false := by
  rw [h]
  simp
theorem eq_not {a b : Bool} (h : a = b) : decide (V.bl (!a) = V.bl b) = false := by
  rw [h]
  cases b <;> simp
theorem ixN_i {n i : Nat} (h : i < n) : ixN n (0 + (i : Int)) = some i := by
  unfold ixN
  rw [if_pos (by omega)]
  first
  | (rw [if_pos (by omega)]; simp)
  | (simp; omega)
theorem in014 (i : Int) : inV (.int i) [.int 0, .int 1, .int 4] = decide (i = 0 ∨ i = 1 ∨ i = 4) := by
  rw [Bool.eq_iff_iff]
  simp only [inV, List.any_cons, List.any_nil, Bool.or_false, eqV, Bool.or_eq_true, beq_iff_eq, decide_eq_true_eq]
  omega
theorem cmpS' {d e : TD} (hd : d.ok) (he : e.ok) (gd : d.g = d.s) (ge : e.g = e.s) : decide (wordsS e = wordsS d) = PyData.eqv (.list (tdP4 e)) (.list (tdP4 d)) := by
  rw [TD.eqv4 ge gd, decide_eq_decide, wordsS_iff he hd ge gd]
end OL

set_option Elab.async false
set_option linter.all false
set_option maxRecDepth 100000
set_option maxHeartbeats 1000000
namespace OL
open PySem PySem.Spec PyProof.Rows L2
/-! ### exceptions as values -/
/-- an exception that was caught: its object, whatever else stands in it -/
def exv (e C : Addr) (d : Addr) : HO := .ext fun h => ∃ (oe : Obj) (vs : Array Value), h.get? e = some oe ∧ Zc (.ref C) (some d) oe ∧ oe.data = .fields vs
/-- an exception of the class at C with these fields -/
def ExV (H : Hp) (a C : Addr) (fs : List (Str × V)) : Prop := ∃ d, (H a = some (exo a C (some d)) ∨ H a = some (exv a C d)) ∧ (H d = some (exd d fs) ∨ H d = some (.xd fs))
theorem ExV.same {H H' : Hp} {a C : Addr} {fs : List (Str × V)} (x : ExV H a C fs) (s : Same H H') : ExV H' a C fs := by
  obtain ⟨d, h1, h2⟩ := x
  exact ⟨d, h1.imp (s _ _) (s _ _), h2.imp (s _ _) (s _ _)⟩
theorem ExV.look {X : Cx} {pins : List (Addr × Obj)} {σ : L2.St} {H : Hp} {s : Shared} {a C : Addr} {fs : List (Str × V)} (x : ExV H a C fs) (I : Inv X pins σ H s) :
    ∃ (ox od : Obj) (mA : Str → Option Value), PySem.W.InstAt s.heap a ox C (some od) ∧ (∀ f, PySem.W.lookIn f od = some (mA f)) ∧ ∀ f, RelO (fs.lookup f) (mA f) := by
  obtain ⟨d, h1, h2⟩ := x
  obtain ⟨mA, hns, rel⟩ : ∃ mA, s.heap.Ns1 d mA ∧ ∀ f, RelO (fs.lookup f) (mA f) := by
    rcases h2 with h2 | h2
    · exact exd_at I.hok h2
    · have y : ObjOk X.prog X.w H s.heap d (.xd fs) := I.hok d _ h2
      exact y
  obtain ⟨od, ho, hl⟩ := lookIn_ns hns
  rcases h1 with h1 | h1
  · obtain ⟨t1, e⟩ := exo_at I.hok h1
    exact ⟨_, od, mA, ⟨e, rfl, rfl, ho⟩, hl, rel⟩
  · have y : ∃ (oe : Obj) (vs : Array Value), s.heap.get? a = some oe ∧ Zc (.ref C) (some d) oe ∧ oe.data = .fields vs := (I.hok a _ h1).1
    obtain ⟨oe, vs, e, z, dt⟩ := y
    exact ⟨oe, od, mA, ⟨e, z.1, by unfold PySem.W.notCls; rw [dt] <;> rfl, by rw [z.2]; exact ho⟩, hl, rel⟩
/-- e.f of such a value -/
def tXv (K : PySem.W.Frag) (f : Str) (te : TE) : TE := fun σ H Q => te σ H fun x H1 => ∃ (a C : Addr) (fs : List (Str × V)) (v : V), x = .ref a ∧ ExV H1 a C fs ∧ XfC K C ∧ PySem.W.findIn K (.ref C) f = some none ∧ fs.lookup f = some v ∧ Q v H1
theorem pe_xv {X : Cx} {e : Expr} {te : TE} {pos : Pos} {n : Str} (he : PE X e te) (hb : attributeBase e n X.env (eval e X.env) = eval e X.env := by rfl) : PE X (.Attribute e n pos) (tXv X.K n te) := by
  refine ⟨fun pins s σ H Q I h => attr_of hb (thn (he.run pins s σ H _ I h) fun u s1 hh => ?_)⟩
  obtain ⟨x, H1, I1, rx, a, C, fs, v, ex, xv, T, hno, l, q⟩ := hh
  subst ex
  obtain rfl : u = Value.ref a := rx
  obtain ⟨ox, od, mA, J, hl, rel⟩ := xv.look I1
  obtain ⟨u, hu, ru⟩ := RelO.some_of (v := v) (o := mA n) (by rw [← l]; exact rel n)
  exact HandSPX.exc_get I1.kIn J T.ga T.gg T.exC (PySem.W.findObj_own T.hdC hno rfl (by rw [hl, hu])) (handed_of ru) ⟨v, H1, I1.tok _, ru, q⟩
theorem exv_kit {K : PySem.W.Frag} {D a : Addr} {ox : Obj} {od : Option Obj} (C : ExcC K D) : PySem.W.KitX K (.ref a) (.ref D) (fun h => PySem.W.InstAt h a ox D od) :=
  PySem.W.kitx_exc (gt := none) (by obtain ⟨cd, hc, _⟩ := PySem.W.any_some C.hd; rw [hc]; rfl) C.hg C.hk C.hs C.ha C.hn C.ht C.hm
/-- isinstance(e, c) of such a value -/
def rIsX (K : PySem.W.Frag) : List V → Hp → VK → Prop := fun xs H Q => ∃ (a D : Addr) (fs : List (Str × V)) (c : V) (u : Value) (b : Bool), xs = [.ref a, c] ∧ ExV H a D fs ∧ ExcC K D ∧ ClsV c u ∧ PySem.W.kitOne K (.ref D) u = some b ∧ Q (.bl b) H
theorem call_isX {X : Cx} : CallR X (.builtin "isinstance") (rIsX X.K) := by
  intro pins s σ H xs us Q I r h
  obtain ⟨a, D, fs, c, u, b, rfl, xv, C, k, e, q⟩ := h
  obtain ⟨u1, u2, rfl, r1, r2⟩ := vals2 r
  cases (show u1 = Value.ref a from r1)
  cases k.eq r2
  obtain ⟨ox, od, mA, J, hl, rel⟩ := xv.look I
  exact PySem.W.kia_one (exv_kit C) I.kIn J e (fun z => nomatch z) fun tk => ⟨.bl b, H, I.tok tk, rfl, q⟩
/-- isinstance(e, (c1, c2, ..)) of such a value -/
def rIsXT (K : PySem.W.Frag) : List V → Hp → VK → Prop := fun xs H Q => ∃ (a D tp : Addr) (fs : List (Str × V)) (cs : List V) (ws : List Value) (b : Bool), xs = [.ref a, .ref tp] ∧ ExV H a D fs ∧ ExcC K D ∧ H tp = some (.tup cs) ∧ Paired ClsV cs ws ∧ PySem.W.kitAny K (.ref D) ws = some b ∧ Q (.bl b) H
theorem call_isXT {X : Cx} : CallR X (.builtin "isinstance") (rIsXT X.K) := by
  intro pins s σ H xs us Q I r h
  obtain ⟨a, D, tp, fs, cs, ws, b, rfl, xv, C, hT, k, e, q⟩ := h
  obtain ⟨u1, u2, rfl, r1, r2⟩ := vals2 r
  cases (show u1 = Value.ref a from r1)
  cases (show u2 = Value.ref tp from r2)
  obtain ⟨ox, od, mA, J, hl, rel⟩ := xv.look I
  obtain ⟨_, its, rv, o, h1, h2, n, h3⟩ := (show ObjOk X.prog X.w H s.heap tp (.tup cs) from I.hok tp _ hT)
  cases ClsV.all k rv
  obtain ⟨oc, oo, dt, sl⟩ := o
  cases (show oc = _ from h2)
  cases (show dt = _ from h3)
  exact PySem.W.kia_tup (exv_kit C) I.kIn J h1 e (fun z => nomatch z) fun tk => ⟨.bl b, H, I.tok tk, rfl, q⟩
/-- C(e, ..) as a value: C an exception class whose own __init__ keeps sp -/
structure NewX (P : Program) (w : World) (K : PySem.W.Frag) (mg : Str → Option Value) (base : Heap) (k : Nat) (x : Str) (C : Addr) (ps : List Str) (spm : Sp) : Prop where
  ex : ∃ sp, MetF P w K mg base k C "__init__" ps sp ∧ OexC K C ∧ mg x = some (.ref C) ∧
    ∀ vs H Q, spm vs H Q E0 → vs.length ≤ 1000 ∧ ∀ a, H a = none → sp (.ref a :: vs) (upd H a (exo a C none)) (fun v H2 => v = .non ∧ Q (.ref a) H2) E0
theorem run_x {X : Cx} {k : Nat} {f C : Addr} {fd : FuncData} {ps : List Str} {sp : Sp} {pins : List (Addr × Obj)} {σ : L2.St} {H : Hp} {s : Shared} {Q : VK} {us : List Value} {vs : List V} (T : OexC X.K C) (iC : PySem.W.findIn X.K (.ref C) "__init__" = some (some (.ref f)))
    (tI : PySem.W.isFn X.K (.ref f) = true) (F : FnG X.prog X.w X.K X.mg X.base CX0 k f fd ps sp) (hr : RoomG (k + 1) X.A) (hb : Binds X.K fd ps []) (I : Inv X pins σ H s) (r : Vals vs us) (hz : vs.length ≤ 1000)
    (h : ∀ a, H a = none → sp (.ref a :: vs) (upd H a (exo a C none)) (fun v H2 => v = .non ∧ Q (.ref a) H2) E0) : wpAny (model X.prog X.w) X.A (call (.ref C) us) (EP X pins σ Q) X.xe s := by
  obtain ⟨nm, qn, N0, b1, bm, b3, b4, b5, b6, b7, c0, c1, c2, c3, c5, hC, hbm⟩ := T.cls
  obtain ⟨hp, g, dr, tk, os⟩ := s
  have n1 : H (hp.objs.size + 1) = none := I.hok.fresh (Nat.le_succ _)
  have want := h _ n1
  have up : ∀ b o, hp.get? b = some o → ((hp.push (PySem.W.kdv_tup us)).push (HandSPX.excO C hp.objs.size)).get? b = some o := fun b o e => Heap.get?_push_of_some _ (Heap.get?_push_of_some _ e)
  have gt : ((hp.push (PySem.W.kdv_tup us)).push (HandSPX.excO C hp.objs.size)).get? (hp.objs.size + 1) = some (HandSPX.excO C hp.objs.size) := by heap_get
  have J : Inv X pins σ (upd H (hp.objs.size + 1) (exo (hp.objs.size + 1) C none)) ⟨(hp.push (PySem.W.kdv_tup us)).push (HandSPX.excO C hp.objs.size), g, dr, tk, os⟩ :=
    I.laid (t' := tk) (a := hp.objs.size + 1) (o := exo (hp.objs.size + 1) C none) (h' := (hp.push (PySem.W.kdv_tup us)).push (HandSPX.excO C hp.objs.size)) up (Nat.le_succ _) (exo_ok gt)
  have rel : Vals (V.ref (hp.objs.size + 1) :: vs) (Value.ref (hp.objs.size + 1) :: us) := .cons rfl r
  have hlen : (Value.ref (hp.objs.size + 1) :: us ++ []).length = ps.length := by
    rw [List.append_nil, ← rel.length]
    exact F.len _ _ _ _ want
  have bnd := hb _ (Value.ref (hp.objs.size + 1) :: us) J.kIn hlen
  rw [List.append_nil] at bnd
  have small : us.length ≤ sizeLine := by rw [← Paired.length r, sizeLine_eq]; omega
  have rm : RoomG k (X.A.under (.builtin "type.__call__" ⟨.ref C :: us, []⟩)) := ⟨hr.room.make C us [], make_guards.trans hr.gd⟩
  refine wpAny_call (HandSPX.call_own PySem.F.excBase_ValueError (fun Y => HandSPX.refsVE_contains Y bm hbm) (I.kIn _ _ hC) (PySem.W.looks_findIn I.kIn iC) (fun self => PySem.W.bind_fn I.kIn self (beq_iff_eq.mp tI)) small
    (codeAny_mono (F.run _ X.stack _ _ ⟨Value.ref (hp.objs.size + 1) :: us, []⟩ _ _ _ E0 rm (J.env0.make C us []) bnd rel want) fun r s' got => ?_))
  cases r with
  | error e => exact pass0 pins σ _ _ e s' J got
  | ok fl =>
    cases fl with
    | ret u =>
      obtain ⟨v, H', I3, rv, ev, q3⟩ := J.after got
      subst ev
      exact ⟨rv, ⟨V.ref (hp.objs.size + 1), H', I3, rfl, q3⟩⟩
    | next => exact got.elim
    | brk => exact got.elim
    | cont => exact got.elim
theorem pe_x {X : Cx} {j k : Nat} {C : Addr} {x : Str} {ps : List Str} {spm : Sp} {p pos : Pos} {e : Expr} {es : List Expr} {t : TA} (c : NewX X.prog X.w X.K X.mg X.base k x C ps spm) (hr : RoomG j X.A) (ha : PA X (e :: es) t) (hk : k + 1 ≤ j := by decide) (hg : Gl X x := by rfl)
    (hdb : (x == ("__debug__" : Str)) = false := by decide) (he : starEach (e :: es) X.env = (false, eval e X.env) :: starEach es X.env := by rfl) (hpl : (backTo pos (starEach es X.env)).any (·.1) = false := by rfl) :
    PE X (.Call (.Name x p) (e :: es) [] pos) (tNew spm t) := by
  obtain ⟨sp, m, T, hm, imp⟩ := c.ex
  obtain ⟨f, fd, F, hi, hf, kp, b, _⟩ := m.ex
  refine ⟨fun pins s σ H Q I h => ?_⟩
  refine wpAny_Call_Name_kw (ld_glob I hg hm ?_ hdb)
  refine PySem.W.callWith_K (h₀ := X.base) I.ok.mod.kin T.kC (thn (ha.run pos pins s σ H _ I h) fun us s1 ⟨vs, H1, I1, r, q⟩ => ⟨I1.kIn, ?_⟩) he hpl
  obtain ⟨hz, hw⟩ := imp vs H1 Q q
  exact run_x T hi hf F (hr.mono hk) b I1 r hz hw
end OL

set_option Elab.async false
set_option linter.all false
set_option maxRecDepth 100000
set_option maxHeartbeats 1000000
namespace OL
open PySem PySem.Spec PyProof.Rows L2
section
variable {X : Cx} {j k : Nat} {C : Addr} {ps : List Str} {sp : Sp}
/-! ### o[i] by an own __getitem__ -/
def rOwnItem (C : Addr) (sp : Sp) : R2 := fun x y H Q => ∃ a dx fs, x = .ref a ∧ H a = some (.ins C dx fs) ∧ sp [.ref a, y] H Q E0
theorem pe_ixO {a b : Expr} {ta tb : TE} {pos : Pos} (c : MetF X.prog X.w X.K X.mg X.base k C "__getitem__" ps sp) (hr : RoomG j X.A) (ha : PE X a ta) (hb : PE X b tb) (hk : k + 1 ≤ j := by decide)
    (hs : ∀ (x : Addr) (i : Value), subscripted b true (.ref x) i = runValue (.builtin "lifetime.subscript" ⟨[.ref x, i], []⟩) := by intro _ _; with_unfolding_all rfl) : PE X (.Subscript a b pos) (tOp (rOwnItem C sp) ta tb) := by
  obtain ⟨f, fd, F, hm, hf, kp, bd, oc, od, osl, lk⟩ := c.ex
  refine ⟨fun pins s σ H Q I h => Subscript_ (binT ha hb I h fun v u s2 x y H2 I2 rx ry q => ?_)⟩
  obtain ⟨o, dx, fs, rfl, ho, q⟩ := q
  cases (show v = Value.ref o from rx)
  obtain ⟨mA, O, _⟩ := ins_get I2.hok ho
  obtain ⟨oo, J, _⟩ := O.look
  obtain ⟨m, hF⟩ := I2.fr
  have hr2 := hr.mono hk
  refine PySem.W.sub_K hF I2.ok.mod.kin J hm (by unfold PySem.W.fnIn; rw [lk]) hf ?_ (hs _ _)
  exact run_at (us := [.ref o, u]) (vs := [.ref o, y]) F hr2.in1 bd pass0 I2 I2.env0.in1 (.cons rfl (.cons ry .nil)) q
/-! ### o.f, a property -/
structure PropT (K : PySem.W.Frag) (C : Addr) (f : Str) (qual : Str) (st : Stmt) (ps : List Str) : Prop where
  ex : ∃ p g fd, PropOf K C f p g ∧ Fun K f qual st g fd ∧ Binds K fd ps []
end
section
variable {P : Program} {w : World} {K : PySem.W.Frag} {mg : Str → Option Value} {base : Heap}
theorem PropT.of {g p C : Addr} {x qual : Str} {st : Stmt} {ps : List Str} {oc kV dc pm cd ct : Value} {od an : Option Addr} {sl : Array (Option Value)} {rest : List Value} (a : PySem.W.findIn K (.ref C) x = some (some (.ref p)))
    (b : PySem.W.specialIn K (.ref p) "__get__" = some (some (.builtin "property.__get__"))) (e : PySem.W.takesIn K (.ref p) = some true) (r : PySem.W.recIn K p "property" = some (.ref g :: rest))
    (l : K.lookup g = some ⟨oc, od, .func (PySem.W.fnOf x qual (defArgs st) (defBody st) (defScope st) .none kV dc pm an cd ct), sl⟩) (c : PySem.W.codeIn K cd qual = true) (k : PySem.W.keepIn K (.ref g) = true)
    (bd : ∀ (kV doc pm : Value) (an : Option Addr) (cdv ct : Value) (us : List Value), us.length = ps.length → bindArgs (PySem.W.fnOf x qual (defArgs st) (defBody st) (defScope st) .none kV doc pm an cdv ct) ⟨us, []⟩ = pure (ps.zip us)) : PropT K C x qual st ps := by
  have F := fun_mk (st := st) l c k
  exact ⟨p, g, _, ⟨a, b, e, rest, r⟩, F, F.binds bd⟩
structure PrpF (P : Program) (w : World) (K : PySem.W.Frag) (mg : Str → Option Value) (base : Heap) (k : Nat) (C : Addr) (x : Str) (ps : List Str) (sp : Sp) : Prop where
  ex : ∃ p g fd, PropOf K C x p g ∧ FnG P w K mg base CX0 k g fd ps sp ∧ Binds K fd ps []
theorem PropT.ok {C : Addr} {x qual : Str} {st : Stmt} {ps N : List Str} {k : Nat} {sp : Sp} (D : PropT K C x qual st ps) (S : FnScope N ps (defScope st)) (len : ∀ vs H Q E, sp vs H Q E → vs.length = ps.length)
    (hbody : ∀ (f : Addr) (cdv : Value) (A : Around) (outer : List Env) (s : Shared) (H : Hp) (vs : List V) (Q : VK) (E : XK), RoomG k (A.deeper (envOfC qual (defScope st) s.heap.objs.size f cdv)) → sp vs H Q E →
      ∃ t, PSs (cxOf CX0 P w K mg base N qual (defScope st) f cdv A outer s H E).nox (defBody st) t ∧ t { nx := fun _ H' => Q .non H', rt := Q } (start N vs) H) : PrpF P w K mg base (k + 1) C x ps sp := by
  obtain ⟨p, g, fd, po, F, b⟩ := D.ex
  exact ⟨p, g, fd, po, F.okG S len (hbody g), b⟩
end
def tProG (C : Addr) (sp : Sp) (ta : TE) : TE := fun σ H Q => ta σ H fun x H1 => ∃ a dx fs, x = .ref a ∧ H1 a = some (.ins C dx fs) ∧ sp [.ref a] H1 Q E0
theorem pe_pro {X : Cx} {j k : Nat} {C : Addr} {ps : List Str} {sp : Sp} {e : Expr} {f : Str} {pos : Pos} {ta : TE} (c : PrpF X.prog X.w X.K X.mg X.base k C f ps sp) (cl : Cls X.K C) (hr : RoomG j X.A) (he : PE X e ta) (hk : k + 1 ≤ j := by decide)
    (hab : attributeBase e f X.env (eval e X.env) = eval e X.env := by rfl) : PE X (.Attribute e f pos) (tProG C sp ta) := by
  obtain ⟨p, g, fd, po, F, bd⟩ := c.ex
  refine ⟨fun pins s σ H Q I h => attr_of hab (thn (he.run pins s σ H _ I h) fun u s1 hh => ?_)⟩
  obtain ⟨x, H1, I1, rx, a, dx, fs, ex, ea, q⟩ := hh
  subst ex
  obtain rfl : u = Value.ref a := rx
  obtain ⟨mA, O, _⟩ := ins_get I1.hok ea
  obtain ⟨od, J, _⟩ := O.look
  obtain ⟨rest, hrec⟩ := po.rec_
  have J1 := I1.tok (s1.toks + 1)
  have r1 : RoomG k X.A.in1 := (hr.mono hk).in1
  have vv : Vals [V.ref a] [Value.ref a] := .cons rfl .nil
  have hc : (PySem.W.clsIn X.K C).isSome = true := by
    obtain ⟨cd, e1, _⟩ := PySem.W.any_some cl.hd
    rw [e1] <;> rfl
  have hl : ([Value.ref a] ++ []).length = ps.length := by rw [← F.len _ _ _ _ q] <;> rfl
  have bn := bd _ [Value.ref a] J1.kIn hl
  have gets := PySem.W.plainGet_of (cl.get f)
  refine PySem.W.get_bind I1.kIn J gets.1 (PySem.W.findObj_data hc po.at_ po.get po.tak) gets.2 (wpAny_call (PySem.W.prop_get (s := { s1 with toks := s1.toks + 1 }) I1.kIn hrec ?_))
  refine codeAny_mono (F.run _ X.stack _ H1 ⟨[.ref a], []⟩ [.ref a] [.ref a] Q E0 r1 J1.env0.in1 (by rw [List.append_nil] at bn; exact bn) vv q) fun r s' got => ?_
  cases r with
  | error er => exact False.elim (pass0 (X := X.nox) pins σ H1 _ er s' (J1.wish _) got)
  | ok fl =>
    cases fl with
    | ret u =>
      obtain ⟨v, H', I3, rv, q3⟩ := J1.after got
      show wpAny _ _ (handedOut u) _ _ _
      rw [PySem.W.handedOut_of (handed_of rv)]
      exact wpAny_pure ⟨v, H', I3, rv, q3⟩
    | next => exact got.elim
    | brk => exact got.elim
    | cont => exact got.elim
/-! ### walks over an own instance whose __iter__ gives iter(t), t a tuple -/
def TiO (t it : Addr) : HO := .ext fun h => h.IsTupleIter it t 0
/-- a promise that knows how large the store was at the call -/
abbrev SpN := Nat → Sp
structure FnN (P : Program) (w : World) (K : PySem.W.Frag) (mg : Str → Option Value) (base : Heap) (k : Nat) (f : Addr) (fd : FuncData) (ps : List Str) (sp : SpN) : Prop where
  len : ∀ n vs H Q E, sp n vs H Q E → vs.length = ps.length
  run : ∀ (A : Around) (outer : List Env) (s : Shared) (H : Hp) (args : Args) (us : List Value) (vs : List V) (Q : VK) (E : XK), RoomG k A → Env0 P w K mg base A outer s H → BindsTo s fd args (ps.zip us) → Vals vs us → sp s.heap.objs.size vs H Q E →
    codeAny (model P w) A (.call (.ref f) args) (CR CX0 outer P w H s Q E) s
theorem fn_ofN {P : Program} {w : World} {K : PySem.W.Frag} {mg : Str → Option Value} {base : Heap} {k : Nat} {f : Addr} {name qual : Str} {params : Arguments} {body : List Stmt} {scope : Scope} {dV kV doc pm cdv ct oc : Value} {an od : Option Addr}
    {osl : Array (Option Value)} {N ps : List Str} {sp : SpN} (lk : K.lookup f = some ⟨oc, od, .func (PySem.W.fnOf name qual params body scope dV kV doc pm an cdv ct), osl⟩) (hcd : PySem.W.codeIn K cdv qual = true) (S : FnScope N ps scope)
    (len : ∀ n vs H Q E, sp n vs H Q E → vs.length = ps.length)
    (hbody : ∀ (A : Around) (outer : List Env) (s : Shared) (H : Hp) (vs : List V) (Q : VK) (E : XK), RoomG k (A.deeper (envOfC qual scope s.heap.objs.size f cdv)) → sp s.heap.objs.size vs H Q E →
      ∃ t, PSs (cxOf CX0 P w K mg base N qual scope f cdv A outer s H E) body t ∧ t { nx := fun _ H' => Q .non H', rt := Q } (start N vs) H) :
    FnN P w K mg base (k + 1) f (PySem.W.fnOf name qual params body scope dV kV doc pm an cdv ct) ps sp := by
  refine ⟨len, fun A outer s H args us vs Q E hG env0 bnd rel want => ?_⟩
  have hr := hG.room
  have hlen := len _ _ _ _ _ want
  have inK : K.In s.heap := env0.mod.kin.keeps fun b o e => (env0.bs b o e).1
  have nolim : s.heap.NoLimit := env0.mod.nolimit.keeps fun b o e => (env0.bs b o e).1
  have kinds : ∀ y ∈ ps.zip us, scope.names.lookup y.1 = some .local ∨ (scope.names.lookup y.1 = some .cell ∧ ((cellsFrom (s.heap.objs.size + 1) scope.names []).lookup y.1).isSome = true) := by
    intro y hy
    obtain ⟨n, v⟩ := y
    rcases S.par n (List.of_mem_zip hy).1 with loc | cel
    · exact Or.inl loc
    · exact Or.inr ⟨cel, PySem.W.cellsFrom_some _ _ _ (Or.inl cel)⟩
  refine codeAny_call_function hr.depth (inK _ _ lk) rfl S.co S.gen rfl (PySem.W.codeRec_of inK hcd) (bnd _ _ _ _ ?_)
  refine wpAny_newFunctionEnv_cells S.kind kinds fun env eenv s1 inC => ?_
  subst eenv
  refine ⟨nolim.keeps inC.toInCall.keep, codeAny_func ?_⟩
  obtain ⟨t, ht, hq⟩ := hbody A outer s H vs Q E (hG.deeper _) want
  have J : Inv (cxOf CX0 P w K mg base N qual scope f cdv A outer s H E) [] (start N vs) H s1 := inv_start S hr.hd env0 hlen rel inC
  refine wpAny_mono (ht.run [] s1 (start N vs) H _ J hq) (fun fl s' got => ?_) fun e s' got => got
  cases fl with
  | ret u =>
    obtain ⟨v, σ', H', I', rv, q⟩ := got
    exact ⟨v, H', I'.os, I'.bare, I'.base, I'.hok, rv, q⟩
  | next =>
    obtain ⟨σ', H', I', q⟩ := got
    exact ⟨V.non, H', I'.os, I'.bare, I'.base, I'.hok, rfl, q⟩
  | brk =>
    obtain ⟨_, _, _, q⟩ := got
    exact q.elim
  | cont =>
    obtain ⟨_, _, _, q⟩ := got
    exact q.elim
structure ItrF (P : Program) (w : World) (K : PySem.W.Frag) (mg : Str → Option Value) (base : Heap) (k : Nat) (C : Addr) (ps : List Str) (sp : SpN) : Prop where
  ex : ∃ f fd, FnN P w K mg base k f fd ps sp ∧ PySem.W.findIn K (.ref C) "__iter__" = some (some (.ref f)) ∧ PySem.W.isFn K (.ref f) = true ∧ Binds K fd ps []
theorem MethT.okN {P : Program} {w : World} {K : PySem.W.Frag} {mg : Str → Option Value} {base : Heap} {C : Addr} {qual : Str} {st : Stmt} {ps N : List Str} {k : Nat} {sp : SpN} (D : MethT K C "__iter__" qual st ps) (S : FnScope N ps (defScope st)) (len : ∀ n vs H Q E, sp n vs H Q E → vs.length = ps.length)
    (hbody : ∀ (f : Addr) (cdv : Value) (A : Around) (outer : List Env) (s : Shared) (H : Hp) (vs : List V) (Q : VK) (E : XK), RoomG k (A.deeper (envOfC qual (defScope st) s.heap.objs.size f cdv)) → sp s.heap.objs.size vs H Q E →
      ∃ t, PSs (cxOf CX0 P w K mg base N qual (defScope st) f cdv A outer s H E).nox (defBody st) t ∧ t { nx := fun _ H' => Q .non H', rt := Q } (start N vs) H) : ItrF P w K mg base (k + 1) C ps sp := by
  obtain ⟨f, fd, F, hm, hf, b⟩ := D.ex
  obtain ⟨oc, od, kV, doc, pm, an, cdv, ct, osl, rfl, lk, hcd⟩ := id F.ex
  refine ⟨f, _, fn_ofN lk hcd S len fun A outer s H vs Q E hG want => ?_, hm, hf, b⟩
  obtain ⟨t, ht, q⟩ := hbody f cdv A outer s H vs Q E hG want
  exact ⟨t, ht.nox, q⟩
/-- iter(t), t a tuple -/
def rIterT (K : PySem.W.Frag) (n : Nat) : List V → Hp → VK → Prop := fun xs H Q => ∃ (t : Addr) (zs : List V), xs = [.ref t] ∧ SqT K H t zs ∧ ∀ it, H it = none → n ≤ it → Q (.ref it) (upd H it (TiO t it))
theorem call_iterT {X : Cx} : CallR X (.builtin "iter") (rIterT X.K X.s_0.heap.objs.size) := by
  intro pins s σ H xs us Q I r h
  obtain ⟨t, zs, rfl, hq, q⟩ := h
  obtain ⟨u, rfl, ru⟩ := vals1 r
  cases (show u = Value.ref t from ru)
  obtain ⟨its, rv, pl, hz⟩ := I.tuple hq
  have st : (s.heap.push { cls := .type "tuple_iterator", data := .fields #[.ref t, .int 0 0] }).IsTupleIter s.heap.objs.size t 0 := ⟨_, Heap.get?_push_size _ rfl, rfl, rfl⟩
  have J : Inv X pins σ (upd H s.heap.objs.size (TiO t s.heap.objs.size)) { s with heap := s.heap.push { cls := .type "tuple_iterator", data := .fields #[.ref t, .int 0 0] }, toks := s.toks } :=
    I.laid (t' := s.toks) (a := s.heap.objs.size) (o := TiO t s.heap.objs.size) (fun b u e => Heap.get?_push_of_some _ e) (Nat.le_refl _) ⟨st, ⟨_, Heap.get?_push_size _ rfl⟩, fun h1 h2 z k => z.at fun o e => k _ e⟩
  refine Calls.call_function_entry (by decide +kernel) (by decide +kernel) PySem.W.kdk_entry_iter (PySem.W.kdk_args_iter _) ?_
  show wpAny _ _ (Builtin.«iter» _) _ _ _
  unfold Builtin.«iter»
  have fin : EP X pins σ Q (.ref s.heap.objs.size) { s with heap := s.heap.push { cls := .type "tuple_iterator", data := .fields #[.ref t, .int 0 0] } } := ⟨.ref s.heap.objs.size, _, J, rfl, q _ (I.hok.fresh (Nat.le_refl _)) I.sz⟩
  exact wpAny_bind (m := someArgs "iter" 1 2 _) (wpAny_of_eq (a := [Value.ref t]) (by first | rfl | kernel_rfl!)
    (wpAny_bind (wpAny_pyIter_tuple (show s.heap.IsTuple t its.toArray from pl) (wpAny_pure ⟨_, rfl, fin⟩))))
/-- the walk over o: what __iter__ gives, a tuple's iterator -/
def iOwn (C : Addr) (sp : SpN) (K : PySem.W.Frag) (n : Nat) (ta : TE) : TI := fun σ H R => ta σ H fun x H1 => ∃ a dx fs, x = .ref a ∧ H1 a = some (.ins C dx fs) ∧
  ∀ n', n ≤ n' → sp n' [.ref a] H1 (fun v H2 => ∃ it t, v = .ref it ∧ n' ≤ it ∧ H2 it = some (TiO t it) ∧ R (Itt K t) (ItX.dropH H2 it)) E0
theorem pi_own {X : Cx} {j k : Nat} {C : Addr} {ps : List Str} {sp : SpN} {tg e : Expr} {ta : TE} (c : ItrF X.prog X.w X.K X.mg X.base k C ps sp) (hr : RoomG j X.A) (he : PE X e ta) (hk : k ≤ j := by decide) : PI X tg e (iOwn C sp X.K X.s_0.heap.objs.size ta) := by
  obtain ⟨f, fd, F, hm, hf, bd⟩ := c.ex
  refine ⟨fun pins s σ H R I h => thn (he.run pins s σ H _ I h) fun v s1 hh => ?_⟩
  obtain ⟨x, H1, I1, rx, a, dx, fs, ex, ea, q⟩ := hh
  subst ex
  obtain rfl : v = Value.ref a := rx
  have q := q s1.heap.objs.size I1.sz
  obtain ⟨mA, O, _⟩ := ins_get I1.hok ea
  obtain ⟨od, J, _⟩ := O.look
  obtain ⟨m, hF⟩ := I1.fr
  have hl : ([Value.ref a] ++ []).length = ps.length := by rw [← F.len _ _ _ _ _ q] <;> rfl
  have bn := bd s1 [Value.ref a] I1.kIn hl
  rw [List.append_nil] at bn
  refine PySem.W.owit_iter hF I1.ok.mod.kin J hm hf (wpAny_call (codeAny_mono (F.run X.A X.stack s1 H1 ⟨[.ref a], []⟩ [.ref a] [.ref a] _ E0 (hr.mono hk) I1.env0 bn (.cons rfl .nil) q) fun r s' got => ?_))
  cases r with
  | error er => exact pass0 pins σ H1 s1 er s' I1 got
  | ok fl =>
    cases fl with
    | ret u =>
      obtain ⟨v, H2, I2, rv, it, t, ev, hn, hit, q3⟩ := I1.after got
      subst ev
      cases (show u = Value.ref it from rv)
      have st : s'.heap.IsTupleIter it t 0 := (I2.hok it _ hit).1
      unfold PySem.W.OwitIt
      refine wpAny_specialOf (name := Str.ofString "__next__") st.typeIs PySem.F.slot_tuple_iterator_next.lookup ?_
      refine ⟨it, [it], _, Itt X.K t, ItX.dropH H2 it, rfl, ItX.inv_drop I2 hit, turn_tuple t it, st, fun b hb => ?_, q3⟩
      rw [List.mem_singleton.mp hb]
      exact ItX.inv_fp I2 hit (Nat.le_trans I1.sz hn)
    | next => exact got.elim
    | brk => exact got.elim
    | cont => exact got.elim
end OL

set_option Elab.async false
set_option linter.all false
set_option maxRecDepth 100000
set_option maxHeartbeats 1000000
namespace OL
open PySem PySem.Spec PyProof.Rows L2
/-! ### o != v, v of any known type, by an own == -/
def rOwnNeV (K : PySem.W.Frag) (C : Addr) (sp : Sp) : R2 := fun x y H Q => ∃ a dx fs t, x = .ref a ∧ H a = some (.ins C dx fs) ∧ TyX K H y t ∧ PySem.W.notFirst K C t = true ∧ sp [.ref a, y] H (fun v H' => ∃ r, v = .bl r ∧ Q (.bl (!r)) H') E0
theorem ow_neV {X : Cx} {j k : Nat} {C : Addr} {ps : List Str} {sp : Sp} (c : MetF X.prog X.w X.K X.mg X.base k C "__eq__" ps sp) (hr : RoomG j X.A) (hne : PySem.W.findIn X.K (.ref C) "__ne__" = some (some (.builtin "object.__ne__")))
    (hmr : PySem.W.mroIn X.K C (.type "object") = some true) (hk : k + 1 ≤ j := by decide) : OpR X (compareOp .NotEq) (rOwnNeV X.K C sp) := by
  obtain ⟨f, fd, F, hm, hf, kp, b, _⟩ := c.ex
  intro pins s σ H x y v u Q I rx ry h
  obtain ⟨a, dx, fs, t, rfl, ha, ty, hn, q⟩ := h
  cases (show v = Value.ref a from rx)
  obtain ⟨mA, O, _⟩ := ins_get I.hok ha
  obtain ⟨od, J, _⟩ := O.look
  obtain ⟨P, Z, hP, _⟩ := kit_of I ry ty
  obtain ⟨m, hF⟩ := I.fr
  have hr2 := hr.mono hk
  show wpAny (model X.prog X.w) X.A (richCompare .NotEq _ _) _ _ _
  refine ne_K (tb := t) (by have := hr2.units; omega) hF I.ok.mod.kin J (Z.ty _ _ I.kIn hP) hn hne hmr hm hf ?_
  refine wpAny_mono (run_at (us := [.ref a, u]) (vs := [.ref a, y]) F hr2.in1 b pass0 I I.env0.in1 (.cons rfl (.cons ry .nil)) q) (fun w s' z => ?_) fun _ _ z => z
  obtain ⟨v', H', I', r, c', e, q'⟩ := z
  subst e
  cases (show w = Value.bool c' from r)
  exact ⟨c', rfl, .bl (!c'), H', I', rfl, q'⟩
theorem ow_neW {X : Cx} {K : PySem.W.Frag} {j k : Nat} {C : Addr} {ps : List Str} {sp : Sp} (c : MetF X.prog X.w K X.mg X.base k C "__eq__" ps sp) (hr : RoomG j X.A) (hne : PySem.W.findIn K (.ref C) "__ne__" = some (some (.builtin "object.__ne__")))
    (hmr : PySem.W.mroIn K C (.type "object") = some true) (hk : k + 1 ≤ j := by decide) (hK : X.K = K := by rfl) : OpR X (compareOp .NotEq) (rOwnNeV K C sp) := by
  subst hK
  exact ow_neV c hr hne hmr hk
/-! ### within a comprehension -/
theorem ix_listK {X : Cx} (K : PySem.W.Frag) (h : X.K = K := by rfl) : IxR X (rIxL K) := by
  subst h
  exact ix_list
theorem ix_tupK {X : Cx} (K : PySem.W.Frag) (h : X.K = K := by rfl) : IxR X (rIxT K) := by
  subst h
  exact ix_tup
theorem pg_tupK {X : Cx} (K : PySem.W.Frag) {es : List Expr} {k : Nat} {pos : Pos} {n : Nat} {t : TGs} (hc : X.calm = true) (h : PGs X es t) (hn : (assignEach es X.env).length = n := by rfl)
    (hst : (assignEach es X.env).findIdx? (·.1) = none := by rfl) (hK : X.K = K := by rfl) : PG X (.Tuple es k pos) (gTup K n t) := by
  subst hK
  exact pg_tup hc h hn hst
/-! ### rows of pairs of ints -/
/-- each value stands for a tuple of two ints -/
inductive Prs (H : Hp) : List V → List (Int × Int) → Prop
  | nil : Prs H [] []
  | cons {q : Addr} {a b : Int} {vs : List V} {ps : List (Int × Int)} : H q = some (.tup [.int a, .int b]) → Prs H vs ps → Prs H (.ref q :: vs) ((a, b) :: ps)
theorem Prs.same {H H' : Hp} (s : Same H H') : ∀ {vs : List V} {ps : List (Int × Int)}, Prs H vs ps → Prs H' vs ps
  | _, _, .nil => .nil
  | _, _, .cons h r => .cons (s _ _ h) (Prs.same s r)
theorem Prs.but {H H' : Hp} {p : Addr} {xs : List V} (b : But p H H') (hp : H p = some (.lst xs)) : ∀ {vs : List V} {ps : List (Int × Int)}, Prs H vs ps → Prs H' vs ps
  | _, _, .nil => .nil
  | _, _, .cons h r => .cons (b _ _ h fun e => by subst e; rw [h] at hp; cases hp) (Prs.but b hp r)
theorem Prs.length {H : Hp} : ∀ {vs : List V} {ps : List (Int × Int)}, Prs H vs ps → vs.length = ps.length
  | _, _, .nil => rfl
  | _, _, .cons _ r => by simp only [List.length_cons, r.length]
theorem Prs.get {H : Hp} : ∀ {vs : List V} {ps : List (Int × Int)} {i : Nat} {x : Int × Int}, Prs H vs ps → ps[i]? = some x → ∃ q, vs[i]? = some (.ref q) ∧ H q = some (.tup [.int x.1, .int x.2])
  | _, _, _, _, .nil, h => by simp at h
  | _, _, 0, _, .cons h _, e => by
    cases Option.some.inj (show some _ = some _ from e)
    exact ⟨_, rfl, h⟩
  | _, _, i + 1, _, .cons _ r, e => by
    obtain ⟨q, h1, h2⟩ := Prs.get r (i := i) (by simpa using e)
    exact ⟨q, by simpa using h1, h2⟩
theorem Prs.get' {H : Hp} {vs : List V} {ps : List (Int × Int)} {i : Nat} {v : V} (p : Prs H vs ps) (e : vs[i]? = some v) : ∃ q x, v = .ref q ∧ ps[i]? = some x ∧ H q = some (.tup [.int x.1, .int x.2]) := by
  have hi : i < vs.length := (List.getElem?_eq_some_iff.mp e).1
  have hj : i < ps.length := by rw [← p.length]; exact hi
  obtain ⟨q, h1, h2⟩ := p.get (List.getElem?_eq_getElem hj)
  rw [e] at h1
  exact ⟨q, _, Option.some.inj h1, List.getElem?_eq_getElem hj, h2⟩
theorem Prs.append {H : Hp} : ∀ {vs ws : List V} {ps qs : List (Int × Int)}, Prs H vs ps → Prs H ws qs → Prs H (vs ++ ws) (ps ++ qs)
  | _, _, _, _, .nil, r => r
  | _, _, _, _, .cons h t, r => .cons h (Prs.append t r)
theorem Prs.take {H : Hp} : ∀ {vs : List V} {ps : List (Int × Int)} (n : Nat), Prs H vs ps → Prs H (vs.take n) (ps.take n)
  | _, _, _, .nil => by simp only [List.take_nil]; exact .nil
  | _, _, 0, .cons _ _ => .nil
  | _, _, n + 1, .cons h r => .cons h (Prs.take n r)
theorem Prs.drop {H : Hp} : ∀ {vs : List V} {ps : List (Int × Int)} (n : Nat), Prs H vs ps → Prs H (vs.drop n) (ps.drop n)
  | _, _, _, .nil => by simp only [List.drop_nil]; exact .nil
  | _, _, 0, .cons h r => .cons h r
  | _, _, n + 1, .cons _ r => Prs.drop n r
def prP (x : Int × Int) : PyData := .tuple [.int x.1, .int x.2]
theorem Prs.dp {K : PySem.W.Frag} {H : Hp} : ∀ {vs : List V} {ps : List (Int × Int)}, Prs H vs ps → DpAll K H vs (ps.map prP)
  | _, _, .nil => .nil
  | _, _, .cons h r => .cons (.tup (SqT.of h) (.cons (.int _) (.cons (.int _) .nil))) (Prs.dp r)
/-- a list, a tuple of such pairs -/
def LP (H : Hp) (a : Addr) (ps : List (Int × Int)) : Prop := ∃ vs, H a = some (.lst vs) ∧ Prs H vs ps
def TP (H : Hp) (a : Addr) (ps : List (Int × Int)) : Prop := ∃ vs, H a = some (.tup vs) ∧ Prs H vs ps
theorem LP.same {H H' : Hp} {a : Addr} {ps : List (Int × Int)} (h : LP H a ps) (s : Same H H') : LP H' a ps := let ⟨vs, e, r⟩ := h; ⟨vs, s _ _ e, r.same s⟩
theorem TP.same {H H' : Hp} {a : Addr} {ps : List (Int × Int)} (h : TP H a ps) (s : Same H H') : TP H' a ps := let ⟨vs, e, r⟩ := h; ⟨vs, s _ _ e, r.same s⟩
theorem LP.but {H H' : Hp} {p a : Addr} {xs : List V} {ps : List (Int × Int)} (h : LP H a ps) (b : But p H H') (hp : H p = some (.lst xs)) (ne : a ≠ p) : LP H' a ps := let ⟨vs, e, r⟩ := h; ⟨vs, b _ _ e ne, r.but b hp⟩
theorem TP.but {H H' : Hp} {p a : Addr} {xs : List V} {ps : List (Int × Int)} (h : TP H a ps) (b : But p H H') (hp : H p = some (.lst xs)) : TP H' a ps := by
  obtain ⟨vs, e, r⟩ := h
  exact ⟨vs, b _ _ e (fun z => by subst z; rw [e] at hp; cases hp), r.but b hp⟩
/-! ### nested data: shaped, shown -/
theorem prP_shaped (ps : List (Int × Int)) : SeqAt.shaped (.list (ps.map prP)) = true ∧ SeqAt.shaped (.tuple (ps.map prP)) = true := by
  have lay : PyData.canLayAll0 (ps.map prP) = true := lay_flat fun d hd => by
    obtain ⟨x, _, rfl⟩ := List.mem_map.mp hd
    rfl
  have dep : PyData.depthAll (ps.map prP) ≤ 1 := by
    induction ps with
    | nil => exact Nat.zero_le _
    | cons x r ih =>
      have lay' : PyData.canLayAll0 (r.map prP) = true := lay_flat fun d hd => by
        obtain ⟨x, _, rfl⟩ := List.mem_map.mp hd
        rfl
      have ih := ih lay'
      simp only [List.map_cons, PyData.depthAll]
      exact Nat.max_le.mpr ⟨by show PyData.depth (prP x) ≤ 1; exact Nat.le_of_eq rfl, ih⟩
  constructor
  · unfold SeqAt.shaped
    simp only [PyData.canLay0, PyData.depth, lay, Bool.true_and]
    exact decide_eq_true (by omega)
  · unfold SeqAt.shaped
    simp only [PyData.canLay0, PyData.depth, lay, Bool.true_and]
    exact decide_eq_true (by omega)
theorem prP_eqv : ∀ ps qs : List (Int × Int), PyData.eqvAll (ps.map prP) (qs.map prP) = decide (ps = qs)
  | [], [] => rfl
  | [], _ :: _ => by simp [PyData.eqvAll]
  | _ :: _, [] => by simp [PyData.eqvAll]
  | x :: ps, y :: qs => by
    obtain ⟨a, b⟩ := x
    obtain ⟨c, d⟩ := y
    simp only [List.map_cons, PyData.eqvAll, prP_eqv ps qs, prP, PyData.eqv, Bool.and_true]
    rw [Bool.eq_iff_iff]
    simp
theorem at_i {α : Type} {xs : List α} {j : Int} {i : Nat} {v : α} (e : j = (i : Int)) (h : xs[i]? = some v) : atI xs j = some v := by
  have hi : i < xs.length := (List.getElem?_eq_some_iff.mp h).1
  have e2 : j = 0 + (i : Int) := by omega
  unfold atI
  rw [e2, ixN_i hi]
  exact h
theorem at_last {α : Type} {xs : List α} {v : α} (h : xs[xs.length - 1]? = some v) : atI xs (-1) = some v := by
  have hi : xs.length - 1 < xs.length := (List.getElem?_eq_some_iff.mp h).1
  unfold atI ixN
  rw [if_neg (by decide), if_pos (by omega)]
  show xs[(-1 + (xs.length : Int)).toNat]? = some v
  rw [show (-1 + (xs.length : Int)).toNat = xs.length - 1 by omega]
  exact h
/-- steps, in which one that changes nothing is left out -/
def fwStep (acc : List (Int × Int)) (x : Int × Int) : List (Int × Int) := if acc.getLast?.map (·.2) = some x.2 then acc else acc ++ [x]
def fewestP (ps : List (Int × Int)) : List (Int × Int) := ps.foldl fwStep []
theorem fewestP_take {ps : List (Int × Int)} {i : Nat} {x : Int × Int} (h : ps[i]? = some x) : fewestP (ps.take (i + 1)) = fwStep (fewestP (ps.take i)) x := by
  unfold fewestP
  rw [List.take_succ, h]
  show List.foldl fwStep [] (ps.take i ++ [x]) = _
  rw [List.foldl_append]
  rfl
theorem fwGo_len : ∀ (ps acc : List (Int × Int)), (ps.foldl fwStep acc).length ≤ acc.length + ps.length
  | [], acc => by simp
  | x :: r, acc => by
    have h := fwGo_len r (fwStep acc x)
    have h2 : (fwStep acc x).length ≤ acc.length + 1 := by
      unfold fwStep
      split <;> simp
    simp only [List.foldl_cons, List.length_cons]
    omega
theorem fewestP_len (ps : List (Int × Int)) : (fewestP ps).length ≤ ps.length := by
  have h := fwGo_len ps []
  simpa [fewestP] using h
/-! ### rows of triples -/
inductive Trs (H : Hp) : List V → List (Int × Int × Int) → Prop
  | nil : Trs H [] []
  | cons {q : Addr} {a b c : Int} {vs : List V} {ps : List (Int × Int × Int)} : H q = some (.tup [.int a, .int b, .int c]) → Trs H vs ps → Trs H (.ref q :: vs) ((a, b, c) :: ps)
theorem Trs.same {H H' : Hp} (s : Same H H') : ∀ {vs : List V} {ps : List (Int × Int × Int)}, Trs H vs ps → Trs H' vs ps
  | _, _, .nil => .nil
  | _, _, .cons h r => .cons (s _ _ h) (Trs.same s r)
theorem Trs.but {H H' : Hp} {p : Addr} {xs : List V} (b : But p H H') (hp : H p = some (.lst xs)) : ∀ {vs : List V} {ps : List (Int × Int × Int)}, Trs H vs ps → Trs H' vs ps
  | _, _, .nil => .nil
  | _, _, .cons h r => .cons (b _ _ h fun e => by subst e; rw [h] at hp; cases hp) (Trs.but b hp r)
theorem Trs.length {H : Hp} : ∀ {vs : List V} {ps : List (Int × Int × Int)}, Trs H vs ps → vs.length = ps.length
  | _, _, .nil => rfl
  | _, _, .cons _ r => by simp only [List.length_cons, r.length]
theorem Trs.append {H : Hp} : ∀ {vs ws : List V} {ps qs : List (Int × Int × Int)}, Trs H vs ps → Trs H ws qs → Trs H (vs ++ ws) (ps ++ qs)
  | _, _, _, _, .nil, r => r
  | _, _, _, _, .cons h t, r => .cons h (Trs.append t r)
def tr3P (x : Int × Int × Int) : PyData := .tuple [.int x.1, .int x.2.1, .int x.2.2]
theorem Trs.dp {K : PySem.W.Frag} {H : Hp} : ∀ {vs : List V} {ps : List (Int × Int × Int)}, Trs H vs ps → DpAll K H vs (ps.map tr3P)
  | _, _, .nil => .nil
  | _, _, .cons h r => .cons (.tup (SqT.of h) (.cons (.int _) (.cons (.int _) (.cons (.int _) .nil)))) (Trs.dp r)
def L3 (H : Hp) (a : Addr) (ps : List (Int × Int × Int)) : Prop := ∃ vs, H a = some (.lst vs) ∧ Trs H vs ps
def T3 (H : Hp) (a : Addr) (ps : List (Int × Int × Int)) : Prop := ∃ vs, H a = some (.tup vs) ∧ Trs H vs ps
theorem T3.same {H H' : Hp} {a : Addr} {ps : List (Int × Int × Int)} (h : T3 H a ps) (s : Same H H') : T3 H' a ps := let ⟨vs, e, r⟩ := h; ⟨vs, s _ _ e, r.same s⟩
/-- the last clock of each step -/
def endsP (ps : List (Int × Int)) (n : Int) : List Int := (ps.drop 1).map (fun x => x.1 - 1) ++ [n - 1]
def spansP (ps : List (Int × Int)) (n : Int) : List (Int × Int × Int) := List.zipWith (fun x e => (x.1, e, x.2)) ps (endsP ps n)
theorem endsP_len {ps : List (Int × Int)} {n : Int} (h : 0 < ps.length) : (endsP ps n).length = ps.length := by
  unfold endsP
  simp only [List.length_append, List.length_map, List.length_drop, List.length_singleton]
  omega
theorem sIx_one {m : Nat} (h : 0 < m) : HT.sIx m 0 (some 1) = 1 := by
  unfold HT.sIx
  simp
  omega
theorem cut_tail {xs : List V} (h : 0 < xs.length) : cutV xs (some 1) none = xs.drop 1 := by
  unfold cutV
  rw [sIx_one h]
  show (xs.drop 1).take (xs.length - 1) = xs.drop 1
  rw [List.take_of_length_le]
  rw [List.length_drop]
  exact Nat.le_refl _
theorem Prs.butG {H H' : Hp} {p : Addr} (b : But p H H') (hp : ∀ xs, H p ≠ some (.tup xs)) : ∀ {vs : List V} {ps : List (Int × Int)}, Prs H vs ps → Prs H' vs ps
  | _, _, .nil => .nil
  | _, _, .cons h r => .cons (b _ _ h fun e => hp _ (e ▸ h)) (Prs.butG b hp r)
theorem Trs.butG {H H' : Hp} {p : Addr} (b : But p H H') (hp : ∀ xs, H p ≠ some (.tup xs)) : ∀ {vs : List V} {ps : List (Int × Int × Int)}, Trs H vs ps → Trs H' vs ps
  | _, _, .nil => .nil
  | _, _, .cons h r => .cons (b _ _ h fun e => hp _ (e ▸ h)) (Trs.butG b hp r)
theorem LP.butG {H H' : Hp} {p a : Addr} {ps : List (Int × Int)} (h : LP H a ps) (b : But p H H') (hp : ∀ xs, H p ≠ some (.tup xs)) (hl : ∀ xs, H p ≠ some (.lst xs)) : LP H' a ps := let ⟨vs, e, r⟩ := h; ⟨vs, b _ _ e fun z => hl _ (z ▸ e), r.butG b hp⟩
theorem TP.butG {H H' : Hp} {p a : Addr} {ps : List (Int × Int)} (h : TP H a ps) (b : But p H H') (hp : ∀ xs, H p ≠ some (.tup xs)) : TP H' a ps := let ⟨vs, e, r⟩ := h; ⟨vs, b _ _ e fun z => hp _ (z ▸ e), r.butG b hp⟩
theorem T3.butG {H H' : Hp} {p a : Addr} {ps : List (Int × Int × Int)} (h : T3 H a ps) (b : But p H H') (hp : ∀ xs, H p ≠ some (.tup xs)) : T3 H' a ps := let ⟨vs, e, r⟩ := h; ⟨vs, b _ _ e fun z => hp _ (z ▸ e), r.butG b hp⟩
theorem fewestP_pos {ps : List (Int × Int)} (h : 0 < ps.length) : 0 < (fewestP ps).length := by
  have grow : ∀ (r acc : List (Int × Int)), 0 < acc.length → 0 < (r.foldl fwStep acc).length := by
    intro r
    induction r with
    | nil => exact fun acc h => h
    | cons x r ih =>
      intro acc h
      refine ih _ ?_
      unfold fwStep
      split
      · exact h
      · simp
  cases ps with
  | nil => exact absurd h (by decide)
  | cons x r =>
    refine grow r _ ?_
    unfold fwStep
    simp
/-- a curve's fields -/
def cvF (d st sp : Addr) : List (Str × V) := putF "_spans" (.ref sp) (putF "steps" (.ref st) (putF "day" (.ref d) []))
theorem cvF_d (d st sp : Addr) : (cvF d st sp).lookup ("day" : Str) = some (.ref d) := by
  simp only [cvF, lookup_putF]
  rw [if_neg (by decide +kernel), if_neg (by decide +kernel), if_pos trivial]
theorem cvF_st (d st sp : Addr) : (cvF d st sp).lookup ("steps" : Str) = some (.ref st) := by
  simp only [cvF, lookup_putF]
  rw [if_neg (by decide +kernel), if_pos trivial]
theorem cvF_sp (d st sp : Addr) : (cvF d st sp).lookup ("_spans" : Str) = some (.ref sp) := by
  simp only [cvF, lookup_putF]
  rw [if_pos trivial]
theorem fewest_last {ps : List (Int × Int)} : ∀ {i : Nat} {x : Int × Int}, ps[i]? = some x → (fewestP (ps.take (i + 1))).getLast?.map (·.2) = some x.2 := by
  intro i x h
  rw [fewestP_take h]
  unfold fwStep
  split
  · assumption
  · simp
theorem height_go (c : Int) : ∀ (ps : List (Int × Int)) (h : Int), ps.foldl (fun h x => if x.1 ≤ c then x.2 else h) h = ((ps.filter fun x => decide (x.1 ≤ c)).map (·.2)).getLast?.getD h
  | [], h => rfl
  | x :: r, h => by
    rw [List.foldl_cons, height_go c r]
    by_cases e : x.1 ≤ c
    · rw [if_pos e, List.filter_cons_of_pos (by simpa using e), List.map_cons, List.getLast?_cons]
      rfl
    · rw [if_neg e, List.filter_cons_of_neg (by simpa using e)]
theorem endsP_in {ps : List (Int × Int)} {n : Int} {i : Nat} {x : Int × Int} (h : ps[i + 1]? = some x) : (endsP ps n)[i]? = some (x.1 - 1) := by
  have hi : i + 1 < ps.length := (List.getElem?_eq_some_iff.mp h).1
  unfold endsP
  rw [List.getElem?_append_left (by rw [List.length_map, List.length_drop]; omega), List.getElem?_map, List.getElem?_drop, show 1 + i = i + 1 by omega, h]
  rfl
theorem endsP_out {ps : List (Int × Int)} {n : Int} {i : Nat} (h : i + 1 = ps.length) : (endsP ps n)[i]? = some (n - 1) := by
  unfold endsP
  rw [List.getElem?_append_right (by rw [List.length_map, List.length_drop]; omega), List.length_map, List.length_drop, show i - (ps.length - 1) = 0 by omega]
  rfl
end OL

set_option Elab.async false
set_option linter.all false
set_option maxRecDepth 100000
set_option maxHeartbeats 1000000
namespace OL
open PySem PySem.Spec PyProof.Rows L2
/-! ### for .. in zip(t, l): a tuple and a list -/
def ItzM (K : PySem.W.Frag) (a b : Addr) : It :=
  ⟨fun i H => ∃ (xs ys : List V) (x y : V), (SqT K H a xs ∧ SqL K H b ys) ∧ xs[i]? = some x ∧ ys[i]? = some y,
    fun i H v H' => ∃ T x y, (v = .ref T ∧ H T = none ∧ H' = upd H T (.tup [x, y])) ∧ (∀ xs, SqT K H a xs → xs[i]? = some x) ∧ ∀ ys, SqL K H b ys → ys[i]? = some y,
    fun i H => ∃ xs ys : List V, (SqT K H a xs ∧ SqL K H b ys) ∧ (i ≤ xs.length ∧ i ≤ ys.length) ∧ (i = xs.length ∨ i = ys.length)⟩
theorem sepM {z TI TO i1 i2 a b : Addr} (D : ZipApart z TI TO i1 i2 a b) : ZipSep2 z TI TO i1 i2 [i1, a] [i2, b] where
  TIz := D.TIz
  TOz := D.TOz
  TITO := D.TITO
  TIi1 := D.TIi1
  mem1 := by simp
  zf1 := by simp [D.i1z.symm, D.l1z.symm]
  Tf1 := by simp [D.TOi1, D.l1TO.symm]
  TIi2 := D.TIi2
  mem2 := by simp
  zf2 := by simp [D.i2z.symm, D.l2z.symm]
  Tf2 := by simp [D.TOi2, D.l2TO.symm]
  sep1_2 := by simp [D.i12, D.l2i1.symm]
  sep2_1 := by simp [D.i12.symm, D.l1i2.symm]
theorem turn_zipM {P : Program} {w : World} {K : PySem.W.Frag} {elts : List Expr} {kk : Nat} {tpos : Pos} {a b z TI TO i1 i2 : Addr} (D : ZipApart z TI TO i1 i2 a b) :
    Turn P w K (.Tuple elts kk tpos) (ItzM K a b) [z, TI, TO, i1, i2] z (fun i h => IsZip h z TI TO .none ∧ IsTupOf2 h TI (.ref i1) (.ref i2) ∧ (∃ x y, IsTupOf2 h TO x y) ∧ h.IsTupleIter i1 a i ∧ h.IsListIter i2 b i) where
  mem := List.mem_cons_self
  obj := fun i h st c hc => by
    obtain ⟨e0, e1, ⟨x, y, e2⟩, ⟨o3, e3, _, d3⟩, ⟨o4, e4, _, d4⟩⟩ := st
    simp only [List.mem_cons, List.not_mem_nil, or_false] at hc
    rcases hc with rfl | rfl | rfl | rfl | rfl
    · exact ⟨_, e0, fun v q => nomatch q⟩
    · exact ⟨_, e1, fun v q => nomatch q⟩
    · exact ⟨_, e2, fun v q => nomatch q⟩
    · exact ⟨o3, e3, fun v q => by cases d3.symm.trans q⟩
    · exact ⟨o4, e4, fun v q => by cases d4.symm.trans q⟩
  keep := fun i h h' st k => by
    obtain ⟨e0, e1, ⟨x, y, e2⟩, e3, e4⟩ := st
    have kz := fun o => k z (by simp) o
    have kI := fun o => k TI (by simp) o
    have kO := fun o => k TO (by simp) o
    exact ⟨kz _ e0, kI _ e1, ⟨x, y, kO _ e2⟩, e3.at (fun o q => k i1 (by simp) o q), e4.at (fun o q => k i2 (by simp) o q)⟩
  item := by
    intro X hP hw hK hc i pins s σ H E I hf st hg
    subst hP hw hK
    obtain ⟨e0, e1, ⟨x0, y0, e2⟩, e3, e4⟩ := st
    obtain ⟨xs, ys, x, y, ⟨qx, qy⟩, hx, hy⟩ := hg
    obtain ⟨us, rv, pt, _⟩ := I.tuple qx
    obtain ⟨ws, rw', pl, _⟩ := I.list qy
    have hh : X.A.in1.handled = none := I.ok.hd hc
    have D1 := Draws.tuple (prog := X.prog) (w := X.w) (A := X.A.in1) hh i1 a D.l1i1 us.toArray
    have D2 := Draws.list (prog := X.prog) (w := X.w) (A := X.A.in1) hh i2 b D.l2i2 ws.toArray
    have n1 : i < us.toArray.size := by
      rw [List.size_toArray, ← rv.length]
      exact (List.getElem?_eq_some_iff.mp hx).1
    have n2 : i < ws.toArray.size := by
      rw [List.size_toArray, ← rw'.length]
      exact (List.getElem?_eq_some_iff.mp hy).1
    refine wpAny_pyNext_zipD2_item (sepM D) D1 D2 e0 e1 e2 ⟨e3, pt⟩ ⟨e4, pl.isList⟩ n1 n2 fun v1 v2 h1 tk p1 p2 f0 f2 f3 f4 f5 f6 f7 => ⟨_, rfl, ?_⟩
    refine wpAny_letOwnedTupleGo_zip (s := { s with heap := h1, toks := tk }) f0 fun h2 g0 sb => ?_
    have lz : z < s.heap.objs.size := Heap.lt_size e0
    obtain ⟨u1, hu1, r1⟩ := rv.get hx
    obtain ⟨u2, hu2, r2⟩ := rw'.get hy
    have q1 : v1 = u1 := by
      have z1 : us[i]? = some v1 := by simpa using p1
      exact Option.some.inj (z1.symm.trans hu1)
    have q2 : v2 = u2 := by
      have z2 : ws[i]? = some v2 := by simpa using p2
      exact Option.some.inj (z2.symm.trans hu2)
    subst q1 q2
    have gT : h2.get? s.heap.objs.size = some { cls := .type "tuple", data := .seq #[v1, v2] } := by
      rw [sb.2 _ (Nat.ne_of_gt lz)]
      exact f5
    have hnew : H s.heap.objs.size = none := I.hok.fresh (Nat.le_refl _)
    have new : ObjOk X.prog X.w (upd H s.heap.objs.size (.tup [x, y])) h2 s.heap.objs.size (.tup [x, y]) := by
      refine ⟨?_, [v1, v2], .cons r1 (.cons r2 .nil), _, gT, rfl, _, rfl⟩
      show 2 ≤ sizeLine
      decide
    have J : Inv X pins σ (upd H s.heap.objs.size (.tup [x, y])) { s with heap := h2, toks := tk } := by
      refine I.turnedNew (t' := tk) (ch := [z, TI, TO, i1, i2]) (fun c o hb q => ?_) hf (Nat.le_refl _) new
      simp only [List.mem_cons, List.not_mem_nil, or_false, not_or] at hb
      rw [sb.2 c hb.1]
      exact f7 c o hb.1 hb.2.2.1 hb.2.2.2.1 hb.2.2.2.2 q
    have keepTI := f7 TI _ D.TIz D.TITO D.TIi1 D.TIi2 e1
    have st2 : IsZip h2 z TI TO .none ∧ IsTupOf2 h2 TI (.ref i1) (.ref i2) ∧ (∃ x y, IsTupOf2 h2 TO x y) ∧ h2.IsTupleIter i1 a (i + 1) ∧ h2.IsListIter i2 b (i + 1) :=
      ⟨g0, (sb.2 _ D.TIz).trans keepTI, ⟨v1, v2, (sb.2 _ D.TOz).trans f2⟩, f3.1.at fun o q => (sb.2 _ D.i1z).trans q, f4.1.at fun o q => (sb.2 _ D.i2z).trans q⟩
    refine ⟨.ref s.heap.objs.size, _, J, rfl, ⟨_, x, y, ⟨rfl, hnew, rfl⟩, fun l hl => by rw [I.tuple_inj hl qx]; exact hx, fun l hl => by rw [I.list_inj hl qy]; exact hy⟩, st2, fun c hcm => ?_⟩
    have hlt : c < s.heap.objs.size := by
      simp only [List.mem_cons, List.not_mem_nil, or_false] at hcm
      obtain ⟨_, l3, _⟩ := e3
      obtain ⟨_, l4, _⟩ := e4
      rcases hcm with rfl | rfl | rfl | rfl | rfl <;> exact Heap.lt_size ‹_›
    rw [upd_ne (Nat.ne_of_lt hlt)]
    exact (hf c hcm).1
  done := by
    intro X hP hw hK hc i pins s σ H E I hf st hg
    subst hP hw hK
    obtain ⟨e0, e1, ⟨x0, y0, e2⟩, e3, e4⟩ := st
    obtain ⟨xs, ys, ⟨qx, qy⟩, hle, hend⟩ := hg
    obtain ⟨us, rv, pt, _⟩ := I.tuple qx
    obtain ⟨ws, rw', pl, _⟩ := I.list qy
    have hh : X.A.in1.handled = none := I.ok.hd hc
    have D1 := Draws.tuple (prog := X.prog) (w := X.w) (A := X.A.in1) hh i1 a D.l1i1 us.toArray
    have D2 := Draws.list (prog := X.prog) (w := X.w) (A := X.A.in1) hh i2 b D.l2i2 ws.toArray
    have m1 : us.toArray.size = xs.length := by rw [List.size_toArray, ← rv.length]
    have m2 : ws.toArray.size = ys.length := by rw [List.size_toArray, ← rw'.length]
    refine wpAny_pyNext_zipD2_end (sepM D) D1 D2 e0 e1 e2 ⟨e3, pt⟩ ⟨e4, pl.isList⟩ (by omega) (by omega) (by omega) fun h' tk hk => ⟨rfl, ?_⟩
    refine I.turnedL (t' := tk) (ch := [z, TI, TO, i1, i2]) (fun c o hb q => ?_) hf
    simp only [List.mem_cons, List.not_mem_nil, or_false, not_or] at hb
    exact hk c o hb.1 hb.2.2.1 hb.2.2.2.1 hb.2.2.2.2 q
  self := fun A i s Q E st h => wpAny_pyIter_zip st.1 h
def iZipM (K : PySem.W.Frag) (ta : TA) : TI := fun σ H R => ta σ H fun vs H1 => ∃ a b xs ys, vs = [.ref a, .ref b] ∧ (SqT K H1 a xs ∧ SqL K H1 b ys) ∧ R (ItzM K a b) H1
theorem pi_zipM {X : Cx} {e e2 : Expr} {ta : TA} {p pos tpos : Pos} {elts : List Expr} {kk : Nat} (hg : Gl X "zip") (hm : X.mg "zip" = none) (ha : PA X [e, e2] ta)
    (hs : starEach [e, e2] X.env = (false, eval e X.env) :: starEach [e2] X.env := by rfl) (hpl : (backTo pos (starEach [e2] X.env)).any (·.1) = false := by rfl) : PI X (.Tuple elts kk tpos) (.Call (.Name "zip" p) [e, e2] [] pos) (iZipM X.K ta) := by
  refine ⟨fun pins s σ H R I h => Call_ (ld_blt I hg hm PyProof.Rows.boot_zip (PyProof.Rows.callWith_type1 (thn (ha.run pos pins s σ H _ I h) fun us s1 hh => ?_) hs hpl))⟩
  obtain ⟨vs, H1, I1, r1, a, b, xs, ys, ex, ⟨qx, qy⟩, q⟩ := hh
  subst ex
  obtain ⟨u1, u2, rfl, ra, rb⟩ := vals2 r1
  cases (show u1 = Value.ref a from ra)
  cases (show u2 = Value.ref b from rb)
  obtain ⟨us, rv, pt, _⟩ := I1.tuple qx
  obtain ⟨ws, rw', pl, _⟩ := I1.list qy
  have la : a < s1.heap.objs.size := by obtain ⟨_, e1, _⟩ := id pt; exact Heap.lt_size e1
  have pl' : s1.heap.IsList b ws.toArray := pl.isList
  have lb : b < s1.heap.objs.size := by obtain ⟨_, e1, _⟩ := id pl'; exact Heap.lt_size e1
  refine zip_begins2 (begins_tuple a us.toArray) (begins_list b ws.toArray) pt pl' fun h' hz hTI hTO g1 g2 hsz hk => wpAny_pyIter_zip hz ?_
  have I2 : Inv X pins σ H1 { s1 with heap := h' } := I1.kept (t' := s1.toks) hk
  refine ⟨_, [s1.heap.objs.size + 4, s1.heap.objs.size + 2, s1.heap.objs.size + 3, s1.heap.objs.size, s1.heap.objs.size + 1], _, _, H1, rfl, I2, turn_zipM (PySem.W.ktu_apart s1.heap.objs.size a b la lb), ⟨hz, hTI, ⟨_, _, hTO⟩, ⟨_, g1, rfl, rfl⟩, ⟨_, g2, rfl, rfl⟩⟩, fun c hcm => ?_, q⟩
  have hle : s1.heap.objs.size ≤ c := by
    simp only [List.mem_cons, List.not_mem_nil, or_false] at hcm
    rcases hcm with h | h | h | h | h <;> rw [h] <;> first | exact Nat.le_refl _ | exact Nat.le_add_right _ _
  exact I1.fpOk hle (I1.hok.fresh hle)
/-- the walk in a comprehension: both have n items -/
theorem lc_zipM {K : PySem.W.Frag} {a b : Addr} {xs ys : List V} {g : TG} {tt : TT} {te : TE} {vs : List Nat} {σ : L2.St} {H1 : Hp} {D : Addr} {Qd : Hp → Prop} (hl : xs.length = ys.length) (Pv : Nat → Hp → Prop) (h0 : Pv 0 (upd H1 D (.lst [])))
    (hq : ∀ i H, i ≤ xs.length → Pv i H → SqT K H a xs ∧ SqL K H b ys)
    (hs : ∀ i x y T H, xs[i]? = some x → ys[i]? = some y → H T = none → Pv i H → g (.ref T) (wipe σ vs) (upd H T (.tup [x, y])) fun σ2 H2 => wipe σ2 vs = wipe σ vs ∧ tt σ2 H2 fun c H3 =>
      if c = true then te σ2 H3 fun v H4 => ∃ acc, H4 D = some (.lst acc) ∧ acc.length < sizeLine ∧ Pv (i + 1) (upd H4 D (.lst (acc ++ [v]))) else Pv (i + 1) H3) (hd : ∀ H, Pv xs.length H → Qd H) :
    ∃ W : Nat → Nat → Hp → Prop, (∃ m, W 0 m (upd H1 D (.lst []))) ∧ ∀ i m H, W i m H →
      ((ItzM K a b).stop i H ∧ Qd H) ∨ ((ItzM K a b).go i H ∧ ∃ Nx : Hp → Prop, (∀ H', Nx H' → ∃ m', m' < m ∧ W (i + 1) m' H') ∧ ∀ x H', (ItzM K a b).yld i H x H' → g x (wipe σ vs) H' fun σ2 H2 => wipe σ2 vs = wipe σ vs ∧ tt σ2 H2 fun c H3 =>
        if c = true then te σ2 H3 fun v H4 => ∃ acc, H4 D = some (.lst acc) ∧ acc.length < sizeLine ∧ Nx (upd H4 D (.lst (acc ++ [v]))) else Nx H3) := by
  refine ⟨fun i m H => (m = xs.length - i ∧ i ≤ xs.length) ∧ Pv i H, ⟨xs.length, ⟨by simp, Nat.zero_le _⟩, h0⟩, fun i m H hW => ?_⟩
  obtain ⟨⟨rfl, hi⟩, hP⟩ := hW
  obtain ⟨qx, qy⟩ := hq i H hi hP
  by_cases e : i = xs.length
  · left
    refine ⟨⟨xs, ys, ⟨qx, qy⟩, ⟨hi, by omega⟩, .inl e⟩, hd H (by rw [← e]; exact hP)⟩
  · right
    have i1 : i < xs.length := by omega
    have i2 : i < ys.length := by omega
    refine ⟨⟨xs, ys, _, _, ⟨qx, qy⟩, List.getElem?_eq_getElem i1, List.getElem?_eq_getElem i2⟩, Pv (i + 1), fun H' h' => ⟨xs.length - (i + 1), by omega, ⟨rfl, by omega⟩, h'⟩, ?_⟩
    rintro v H' ⟨T, x, y, ⟨rfl, hT, rfl⟩, hx, hy⟩
    exact hs i x y T H (hx xs qx) (hy ys qy) hT hP
end OL

set_option Elab.async false
set_option linter.all false
set_option maxRecDepth 100000
set_option maxHeartbeats 1000000
/-! RL: forms of values (RP), and readings by forms: G, GA, T, S. My own layer over HandS's readings. -/
namespace RL
open PySem PySem.Spec PyProof.Rows L2 OL

/-- what a value stands for, in a heap that only grows -/
structure RP where
  r : Hp → V → Prop
  m : ∀ {H H' : Hp} {v : V}, Same H H' → r H v → r H' v
abbrev Rps (H : Hp) (ps : List RP) (vs : List V) : Prop := Paired (fun (p : RP) (v : V) => p.r H v) ps vs
theorem Rps.same {H H' : Hp} (s : Same H H') : ∀ {ps : List RP} {vs : List V}, Rps H ps vs → Rps H' ps vs
  | _, _, .nil => .nil
  | _, _, .cons h t => .cons (RP.m _ s h) (Rps.same s t)
theorem Rps.get {H : Hp} : ∀ {ps : List RP} {vs : List V} {i : Nat} {p : RP}, Rps H ps vs → ps[i]? = some p → ∃ v, vs[i]? = some v ∧ p.r H v
  | _, _, _, _, .nil, e => by simp at e
  | _, _, 0, _, .cons h _, e => by simp at e; subst e; exact ⟨_, rfl, h⟩
  | _, _, i + 1, _, .cons _ t, e => by
    obtain ⟨v, a, b⟩ := Rps.get (i := i) t (by simpa using e)
    exact ⟨v, by simpa using a, b⟩
theorem Rps.get' {H : Hp} {ps : List RP} {vs : List V} {i : Nat} {v : V} (h : Rps H ps vs) (e : vs[i]? = some v) : ∃ p, ps[i]? = some p ∧ p.r H v := by
  have hl := Paired.length h
  have hi : i < vs.length := (List.getElem?_eq_some_iff.mp e).1
  have e2 := List.getElem?_eq_getElem (l := ps) (i := i) (by omega)
  obtain ⟨u, a, b⟩ := h.get e2
  rw [e] at a
  cases a
  exact ⟨_, e2, b⟩
theorem Rps.append {H : Hp} : ∀ {ps qs : List RP} {vs ws : List V}, Rps H ps vs → Rps H qs ws → Rps H (ps ++ qs) (vs ++ ws)
  | _, _, _, _, .nil, s => s
  | _, _, _, _, .cons h t, s => .cons h (Rps.append t s)
theorem Rps.take {H : Hp} : ∀ {ps : List RP} {vs : List V} (n : Nat), Rps H ps vs → Rps H (ps.take n) (vs.take n)
  | _, _, 0, _ => .nil
  | _, _, _ + 1, .nil => .nil
  | _, _, n + 1, .cons h t => .cons h (Rps.take n t)
theorem Rps.drop {H : Hp} : ∀ {ps : List RP} {vs : List V} (n : Nat), Rps H ps vs → Rps H (ps.drop n) (vs.drop n)
  | _, _, 0, h => h
  | _, _, _ + 1, .nil => .nil
  | _, _, n + 1, .cons _ t => Rps.drop n t
/-- a plain value -/
def cV (v : V) : RP := ⟨fun _ u => u = v, fun _ h => h⟩
abbrev I (n : Int) : RP := cV (.int n)
abbrev B (b : Bool) : RP := cV (.bl b)
abbrev St' (z : Str) : RP := cV (.str z)
abbrev Nn : RP := cV .non
/-- a list, a tuple that nobody changes any more -/
def lR (ps : List RP) : RP := ⟨fun H v => ∃ a vs, v = .ref a ∧ H a = some (.lst vs) ∧ Rps H ps vs, fun s ⟨a, vs, e, h, q⟩ => ⟨a, vs, e, s _ _ h, q.same s⟩⟩
def tR (ps : List RP) : RP := ⟨fun H v => ∃ a vs, v = .ref a ∧ H a = some (.tup vs) ∧ Rps H ps vs, fun s ⟨a, vs, e, h, q⟩ => ⟨a, vs, e, s _ _ h, q.same s⟩⟩
/-- an instance of the class at C that nobody changes any more, by its attributes -/
def iR (C : Addr) (fs : List (Str × RP)) : RP := ⟨fun H v => ∃ a dx vs, v = .ref a ∧ H a = some (.ins C dx vs) ∧ Paired (fun (f : Str × RP) (u : Str × V) => u.1 = f.1 ∧ f.2.r H u.2) fs vs,
  fun s ⟨a, dx, vs, e, h, q⟩ => ⟨a, dx, vs, e, s _ _ h, Paired.mono (fun _ _ x => ⟨x.1, RP.m _ s x.2⟩) q⟩⟩
/-- what is known of values, whatever form -/
def RP.imp (p q : RP) : Prop := ∀ H v, p.r H v → q.r H v

/-! ### the pen -/
def Pn (p l : Addr) (ns : List Int) (b : Int) (H : Hp) : Prop := ∃ (spot left : Int), H p = some (.lst [.ref l, .int spot, .int left]) ∧ H l = some (.lst (ns.map V.int)) ∧ 0 ≤ spot ∧ spot ≤ b ∧ 0 ≤ left ∧ ns.length ≤ 63
theorem Pn.ne {p l : Addr} {ns : List Int} {b : Int} {H : Hp} (h : Pn p l ns b H) : l ≠ p := by
  obtain ⟨s, t, h1, h2, _⟩ := h
  intro e
  subst e
  rw [h1] at h2
  cases ns with
  | nil => cases h2
  | cons a r => cases h2
theorem Pn.mono {p l : Addr} {ns : List Int} {b c : Int} {H : Hp} (h : Pn p l ns b H) (hc : b ≤ c) : Pn p l ns c H := by
  obtain ⟨s, t, h1, h2, h3, h4, h5⟩ := h
  exact ⟨s, t, h1, h2, h3, by omega, h5⟩
theorem Pn.same {p l : Addr} {ns : List Int} {b : Int} {H H' : Hp} (h : Pn p l ns b H) (e : Same H H') : Pn p l ns b H' := by
  obtain ⟨s, t, h1, h2, r⟩ := h
  exact ⟨s, t, e _ _ h1, e _ _ h2, r⟩
theorem Pn.at_ {p l : Addr} {ns : List Int} {b : Int} {H : Hp} (h : Pn p l ns b H) : ∃ o, H p = some o := let ⟨s, t, h1, _⟩ := h; ⟨_, h1⟩
theorem Pn.upd {p l q : Addr} {ns : List Int} {b : Int} {H : Hp} {o : HO} (h : Pn p l ns b H) (n1 : q ≠ p) (n2 : q ≠ l) : Pn p l ns b (L2.upd H q o) := by
  obtain ⟨s, t, h1, h2, r⟩ := h
  exact ⟨s, t, by rw [upd_ne (Ne.symm n1)]; exact h1, by rw [upd_ne (Ne.symm n2)]; exact h2, r⟩
theorem Pn.atl {p l : Addr} {ns : List Int} {b : Int} {H : Hp} (h : Pn p l ns b H) : ∃ o, H l = some o := let ⟨s, t, _, h2, _⟩ := h; ⟨_, h2⟩

/-! ### where one stands -/
/-- the pen (if there is one), what is wished of an exception, by its class and fields -/
structure Ev where
  pen : Option (Addr × Addr × List Int)
  E : XK := fun _ _ _ => False
  X : Addr → List (Str × RP) → Int → Prop := fun _ _ _ => False
inductive Slot where
  | no
  | val (p : RP)
  | own (ps : List RP)
  | pen
def SlotOk (e : Ev) (Hf H : Hp) : Slot → Option V → Prop
  | .no, _ => True
  | .val p, o => ∃ v, o = some v ∧ p.r Hf v
  | .own ps, o => ∃ a vs, o = some (.ref a) ∧ Hf a = none ∧ H a = some (.lst vs) ∧ Rps Hf ps vs ∧ ∀ x, e.pen = some x → a ≠ x.1 ∧ a ≠ x.2.1
  | .pen, o => ∃ x, e.pen = some x ∧ o = some (.ref x.1)
/-- what may grow: lists, dicts -/
def Mb : HO → Prop
  | .lst _ => True
  | .dK _ => True
  | _ => False
/-- frozen heap to frozen heap, heap to heap -/
structure Ex (Hf H Hf' H' : Hp) : Prop where
  ff : Same Hf Hf'
  fh : Same Hf' H'
  hh : Same H H'
  nw : ∀ a o, H a = some o → Mb o → Hf a = none → Hf' a = none
theorem Ex.refl {Hf H : Hp} (s : Same Hf H) : Ex Hf H Hf H := ⟨.refl _, s, .refl _, fun _ _ _ _ n => n⟩
theorem Ex.trans {Hf H H1 H2 F1 F2 : Hp} (a : Ex Hf H F1 H1) (b : Ex F1 H1 F2 H2) : Ex Hf H F2 H2 :=
  ⟨a.ff.trans b.ff, b.fh, a.hh.trans b.hh, fun c o h l n => b.nw c o (a.hh _ _ h) l (a.nw c o h l n)⟩
/-- a new object, frozen at once -/
theorem Ex.new {Hf H : Hp} {q : Addr} {o : HO} (s : Same Hf H) (n : H q = none) : Ex Hf H (L2.upd Hf q o) (L2.upd H q o) :=
  ⟨.new1 (s.free n), fun b u e => by
    by_cases h : b = q
    · subst h; rw [upd_same] at e ⊢; exact e
    · rw [upd_ne h] at e ⊢; exact s _ _ e, .new1 n, fun a u h _ m => by rw [upd_ne (ne_of_none h n)]; exact m⟩
/-- a new object that nobody tells of -/
theorem Ex.newU {Hf H : Hp} {q : Addr} {o : HO} (s : Same Hf H) (n : H q = none) : Ex Hf H Hf (L2.upd H q o) :=
  ⟨.refl _, s.trans (.new1 n), .new1 n, fun _ _ _ _ m => m⟩
theorem Ex.of {Hf H H' : Hp} (s : Same Hf H) (h : Same H H') : Ex Hf H Hf H' := ⟨.refl _, s.trans h, h, fun _ _ _ _ m => m⟩

/-- the entry: the heap, its frozen part -/
structure Zn where
  H0 : Hp
  F0 : Hp
/-- what stays of the entry's heap -/
def Fr (e : Ev) (H0 H : Hp) : Prop := ∀ a o, H0 a = some o → (∀ x, e.pen = some x → a ≠ x.1) → H a = some o
theorem Fr.refl {e : Ev} {H : Hp} : Fr e H H := fun _ _ h _ => h
theorem Fr.trans {e : Ev} {H0 H1 H2 : Hp} (a : Fr e H0 H1) (b : Fr e H1 H2) : Fr e H0 H2 := fun c o h n => b c o (a c o h n) n
theorem Fr.same {e : Ev} {H0 H1 H2 : Hp} (a : Fr e H0 H1) (b : Same H1 H2) : Fr e H0 H2 := fun c o h n => b c o (a c o h n)
def PenOk (e : Ev) (b : Int) (Hf H : Hp) : Prop := ∀ x, e.pen = some x → Pn x.1 x.2.1 x.2.2 b H ∧ Hf x.1 = none
theorem PenOk.ex {e : Ev} {b : Int} {Hf H Hf' H' : Hp} (p : PenOk e b Hf H) (x : Ex Hf H Hf' H') : PenOk e b Hf' H' := fun y hy => by
  obtain ⟨h1, h2⟩ := p y hy
  obtain ⟨sp, lf, ho, _⟩ := id h1
  exact ⟨h1.same x.hh, x.nw _ _ ho trivial h2⟩
/-- an exception that leaves is wished for -/
def ExcOk (e : Ev) (Z : Zn) : Prop := ∀ C d fs vs b Hf H, e.X C fs b → Fr e Z.H0 H → PenOk e b Hf H → Same Hf H → Same Z.F0 Hf → (∀ a o, Z.H0 a = some o → Mb o → Z.F0 a = none → Hf a = none) →
  H d = some (.xd vs) → Paired (fun (f : Str × RP) (u : Str × V) => u.1 = f.1 ∧ f.2.r Hf u.2) fs vs → Z.H0 d = none → e.E (.ref C) (some d) H
structure StOk (e : Ev) (Z : Zn) (ρ : List Slot) (b : Int) (σ : L2.St) (Hf H : Hp) : Prop where
  sf : Same Hf H
  fr : Fr e Z.H0 H
  f0 : Same Z.F0 Hf
  nw : ∀ a o, Z.H0 a = some o → Mb o → Z.F0 a = none → Hf a = none
  pn : PenOk e b Hf H
  sl : Paired (SlotOk e Hf H) ρ σ
  ap : ∀ (i j : Nat) (a : Addr) (ps qs : List RP), i ≠ j → ρ[i]? = some (Slot.own ps) → ρ[j]? = some (Slot.own qs) → σ[i]? = some (some (V.ref a)) → σ[j]? ≠ some (some (V.ref a))
  on : ∀ (i : Nat) (a : Addr) (ps : List RP), ρ[i]? = some (Slot.own ps) → σ[i]? = some (some (V.ref a)) → Z.H0 a = none
  ex : ExcOk e Z
theorem StOk.old {e : Ev} {Z : Zn} {ρ : List Slot} {b : Int} {σ : L2.St} {Hf H : Hp} (s : StOk e Z ρ b σ Hf H) {a : Addr} {o : HO} (h : Z.H0 a = some o) : ∃ o', H a = some o' := by
  cases hp : e.pen with
  | none => exact ⟨o, s.fr a o h fun x hx => by rw [hp] at hx; cases hx⟩
  | some x =>
    by_cases c : a = x.1
    · subst c; exact (s.pn x hp).1.at_
    · exact ⟨o, s.fr a o h fun y hy => by rw [hp] at hy; cases hy; exact c⟩
theorem StOk.oldM {e : Ev} {Z : Zn} {ρ : List Slot} {b : Int} {σ : L2.St} {Hf H : Hp} (s : StOk e Z ρ b σ Hf H) {a : Addr} {o : HO} (h : Z.H0 a = some o) (m : Mb o) : ∃ o', H a = some o' ∧ Mb o' := by
  cases hp : e.pen with
  | none => exact ⟨o, s.fr a o h (fun x hx => by rw [hp] at hx; cases hx), m⟩
  | some x =>
    by_cases c : a = x.1
    · subst c
      obtain ⟨sp, lf, ho, _⟩ := (s.pn x hp).1
      exact ⟨_, ho, trivial⟩
    · exact ⟨o, s.fr a o h (fun y hy => by rw [hp] at hy; cases hy; exact c), m⟩
theorem SlotOk.ex {e : Ev} {Hf H Hf' H' : Hp} {s : Slot} {o : Option V} (h : SlotOk e Hf H s o) (x : Ex Hf H Hf' H') : SlotOk e Hf' H' s o := by
  cases s with
  | no => trivial
  | val p => obtain ⟨v, e, r⟩ := h; exact ⟨v, e, RP.m _ x.ff r⟩
  | own ps => obtain ⟨a, vs, e, n, h, r, q⟩ := h; exact ⟨a, vs, e, x.nw _ _ h trivial n, x.hh _ _ h, r.same x.ff, q⟩
  | pen => exact h
theorem StOk.move {e : Ev} {Z : Zn} {ρ : List Slot} {b : Int} {σ : L2.St} {Hf H Hf' H' : Hp} (s : StOk e Z ρ b σ Hf H) (x : Ex Hf H Hf' H') : StOk e Z ρ b σ Hf' H' :=
  ⟨x.fh, s.fr.same x.hh, s.f0.trans x.ff, fun a o h m n => let ⟨o', h', m'⟩ := s.oldM h m; x.nw a o' h' m' (s.nw a o h m n), s.pn.ex x, Paired.mono (fun _ _ h => SlotOk.ex h x) s.sl, s.ap, s.on, s.ex⟩
theorem Paired.get {α β : Type} {F : α → β → Prop} : ∀ {l₁ : List α} {l₂ : List β} {i : Nat} {x : α}, Paired F l₁ l₂ → l₁[i]? = some x → ∃ y, l₂[i]? = some y ∧ F x y
  | _, _, _, _, .nil, e => by simp at e
  | _, _, 0, _, .cons h _, e => by simp at e; subst e; exact ⟨_, rfl, h⟩
  | _, _, i + 1, _, .cons _ t, e => by
    obtain ⟨v, a, b⟩ := Paired.get (i := i) t (by simpa using e)
    exact ⟨v, by simpa using a, b⟩
theorem Paired.set {α β : Type} {F : α → β → Prop} {x : α} {y : β} (h : F x y) : ∀ {l₁ : List α} {l₂ : List β} (i : Nat), Paired F l₁ l₂ → Paired F (l₁.set i x) (l₂.set i y)
  | _, _, _, .nil => .nil
  | _, _, 0, .cons _ t => .cons h t
  | _, _, i + 1, .cons g t => .cons g (Paired.set h i t)
theorem StOk.val {e : Ev} {Z : Zn} {ρ : List Slot} {b : Int} {σ : L2.St} {Hf H : Hp} {i : Nat} {p : RP} (s : StOk e Z ρ b σ Hf H) (h : ρ[i]? = some (.val p)) : ∃ v, σ[i]? = some (some v) ∧ p.r Hf v := by
  obtain ⟨o, a, v, c, d⟩ := Paired.get s.sl h
  exact ⟨v, by rw [a, c], d⟩
theorem StOk.own {e : Ev} {Z : Zn} {ρ : List Slot} {b : Int} {σ : L2.St} {Hf H : Hp} {i : Nat} {ps : List RP} (s : StOk e Z ρ b σ Hf H) (h : ρ[i]? = some (.own ps)) :
    ∃ a vs, σ[i]? = some (some (.ref a)) ∧ Hf a = none ∧ H a = some (.lst vs) ∧ Rps Hf ps vs ∧ ∀ x, e.pen = some x → a ≠ x.1 ∧ a ≠ x.2.1 := by
  obtain ⟨o, a, q, vs, c, d⟩ := Paired.get s.sl h
  exact ⟨q, vs, by rw [a, c], d⟩
theorem set_get {α : Type} {l : List α} {i j : Nat} {x y : α} (h : (l.set i x)[j]? = some y) : (j = i ∧ y = x) ∨ (j ≠ i ∧ l[j]? = some y) := by
  by_cases e : j = i
  · subst e
    have hl : j < (l.set j x).length := (List.getElem?_eq_some_iff.mp h).1
    rw [List.length_set] at hl
    rw [List.getElem?_set_self hl] at h
    cases h
    exact .inl ⟨rfl, rfl⟩
  · rw [List.getElem?_set_ne (Ne.symm e)] at h
    exact .inr ⟨e, h⟩
theorem set_self {α : Type} {l : List α} {i : Nat} {x : α} (h : l[i]? = some x) : l.set i x = l := by
  apply List.ext_getElem?
  intro j
  by_cases hj : i = j
  · subst hj
    rw [List.getElem?_set_self (List.getElem?_eq_some_iff.mp h).1, h]
  · rw [List.getElem?_set_ne hj]
theorem Paired.ix {α β : Type} {F : α → β → Prop} : ∀ {l : List α} {m : List β}, l.length = m.length → (∀ (i : Nat) (x : α) (y : β), l[i]? = some x → m[i]? = some y → F x y) → Paired F l m
  | [], [], _, _ => .nil
  | [], _ :: _, h, _ => by simp at h
  | _ :: _, [], h, _ => by simp at h
  | x :: l, y :: m, h, f => .cons (f 0 x y rfl rfl) (Paired.ix (by simpa using h) fun i x y a b => f (i + 1) x y (by simpa using a) (by simpa using b))
/-- a slot is stored -/
theorem StOk.put {e : Ev} {Z : Zn} {ρ : List Slot} {b : Int} {σ : L2.St} {Hf H : Hp} {v : V} {p : RP} (i : Nat) (s : StOk e Z ρ b σ Hf H) (h : p.r Hf v) : StOk e Z (ρ.set i (.val p)) b (σ.set i (some v)) Hf H := by
  refine ⟨s.sf, s.fr, s.f0, s.nw, s.pn, Paired.set (show SlotOk e Hf H (.val p) (some v) from ⟨v, rfl, h⟩) i s.sl, fun j k a ps qs ne h1 h2 h3 h4 => ?_, fun j a ps h1 h3 => ?_, s.ex⟩
  rotate_left
  · rcases set_get h1 with ⟨_, z⟩ | ⟨n1, h1⟩
    · cases z
    rw [List.getElem?_set_ne (Ne.symm n1)] at h3
    exact s.on j a ps h1 h3
  rcases set_get h1 with ⟨_, z⟩ | ⟨n1, h1⟩
  · cases z
  rcases set_get h2 with ⟨_, z⟩ | ⟨n2, h2⟩
  · cases z
  rw [List.getElem?_set_ne (Ne.symm n1)] at h3
  rw [List.getElem?_set_ne (Ne.symm n2)] at h4
  exact s.ap j k a ps qs ne h1 h2 h3 h4
/-- a new list is stored as one's own -/
theorem StOk.putOwn {e : Ev} {Z : Zn} {ρ : List Slot} {b : Int} {σ : L2.St} {Hf H Hf' H' : Hp} {ps : List RP} {vs : List V} {q : Addr} (i : Nat) (s : StOk e Z ρ b σ Hf H) (x : Ex Hf H Hf' H') (n : H q = none) (nf : Hf' q = none) (hq : H' q = some (.lst vs)) (h : Rps Hf' ps vs) :
    StOk e Z (ρ.set i (.own ps)) b (σ.set i (some (.ref q))) Hf' H' := by
  have s' := s.move x
  have np : ∀ y, e.pen = some y → q ≠ y.1 ∧ q ≠ y.2.1 := fun y hy => by
    obtain ⟨h1, _⟩ := s.pn y hy
    obtain ⟨o, ho⟩ := h1.at_
    obtain ⟨o', ho'⟩ := h1.atl
    exact ⟨(ne_of_none ho n).symm, (ne_of_none ho' n).symm⟩
  have fresh : ∀ (j : Nat) (ps' : List RP), ρ[j]? = some (Slot.own ps') → σ[j]? ≠ some (some (V.ref q)) := fun j ps' hj z => by
    obtain ⟨a, ws, h1, _, h3, _⟩ := s.own hj
    rw [z] at h1
    cases h1
    rw [h3] at n
    cases n
  refine ⟨s'.sf, s'.fr, s'.f0, s'.nw, s'.pn, Paired.set (show SlotOk e Hf' H' (.own ps) (some (.ref q)) from ⟨q, vs, rfl, nf, hq, h, np⟩) i s'.sl, fun j k a ps1 qs1 ne h1 h2 h3 h4 => ?_, fun j a ps1 h1 h3 => ?_, s'.ex⟩
  rotate_left
  · rcases set_get h1 with ⟨e1, _⟩ | ⟨n1, h1⟩
    · subst e1
      rcases set_get h3 with ⟨_, z3⟩ | ⟨z3, _⟩
      · cases z3
        cases hz : Z.H0 q with
        | none => rfl
        | some o =>
          have := s.fr q o hz fun y hy => (np y hy).1
          rw [n] at this
          cases this
      · exact (z3 rfl).elim
    · rw [List.getElem?_set_ne (Ne.symm n1)] at h3
      exact s.on j a ps1 h1 h3
  rcases set_get h1 with ⟨e1, z1⟩ | ⟨n1, g1⟩
  · rcases set_get h2 with ⟨e2, _⟩ | ⟨n2, g2⟩
    · exact ne (e1.trans e2.symm)
    · subst e1
      rcases set_get h3 with ⟨_, z3⟩ | ⟨z3, _⟩
      · cases z3
        rw [List.getElem?_set_ne (Ne.symm n2)] at h4
        exact fresh k qs1 g2 h4
      · exact z3 rfl
  · rcases set_get h2 with ⟨e2, _⟩ | ⟨n2, g2⟩
    · subst e2
      rcases set_get h4 with ⟨_, z4⟩ | ⟨z4, _⟩
      · cases z4
        rw [List.getElem?_set_ne (Ne.symm n1)] at h3
        exact fresh j ps1 g1 h3
      · exact z4 rfl
    · rw [List.getElem?_set_ne (Ne.symm n1)] at h3
      rw [List.getElem?_set_ne (Ne.symm n2)] at h4
      exact s.ap j k a ps1 qs1 ne g1 g2 h3 h4

/-! ### the judgements -/
def G (e : Ev) (t : TE) (ρ : List Slot) (b : Int) (k : RP → Int → Prop) : Prop :=
  ∀ (Z : Zn) (σ : L2.St) (Hf H : Hp) (Q : VK), StOk e Z ρ b σ Hf H → (∀ p b' v Hf' H', k p b' → StOk e Z ρ b' σ Hf' H' → Same Hf Hf' → p.r Hf' v → Q v H') → t σ H Q
def GA (e : Ev) (t : TA) (ρ : List Slot) (b : Int) (k : List RP → Int → Prop) : Prop :=
  ∀ (Z : Zn) (σ : L2.St) (Hf H : Hp) (Q : List V → Hp → Prop), StOk e Z ρ b σ Hf H → (∀ ps b' vs Hf' H', k ps b' → StOk e Z ρ b' σ Hf' H' → Same Hf Hf' → Rps Hf' ps vs → Q vs H') → t σ H Q
def T (e : Ev) (t : TT) (ρ : List Slot) (b : Int) (k : Bool → Int → Prop) : Prop :=
  ∀ (Z : Zn) (σ : L2.St) (Hf H : Hp) (Q : Bool → Hp → Prop), StOk e Z ρ b σ Hf H → (∀ c b' Hf' H', k c b' → StOk e Z ρ b' σ Hf' H' → Same Hf Hf' → Q c H') → t σ H Q
/-- a new list, unknown to all -/
def GN (e : Ev) (t : TE) (ρ : List Slot) (b : Int) (k : List RP → Int → Prop) : Prop :=
  ∀ (Z : Zn) (σ : L2.St) (Hf H : Hp) (Q : VK), StOk e Z ρ b σ Hf H →
    (∀ ps b' q vs Hf1 H1 Hf' H', k ps b' → StOk e Z ρ b' σ Hf1 H1 → Same Hf Hf1 → Ex Hf1 H1 Hf' H' → H1 q = none → Hf' q = none → H' q = some (.lst vs) → Rps Hf' ps vs → Q (.ref q) H') → t σ H Q
def S (e : Ev) (t : TS) (ρ : List Slot) (b : Int) (N : List Slot → Int → Prop) (R : RP → Int → Prop) : Prop :=
  ∀ (Z : Zn) (σ : L2.St) (Hf H : Hp) (D : Ends), StOk e Z ρ b σ Hf H →
    (∀ ρ' b' σ' Hf' H', N ρ' b' → StOk e Z ρ' b' σ' Hf' H' → Same Hf Hf' → D.nx σ' H') →
    (∀ p b' ρ' v σ' Hf' H', R p b' → StOk e Z ρ' b' σ' Hf' H' → Same Hf Hf' → p.r Hf' v → D.rt v H') → t D σ H

section
variable {e : Ev} {ρ : List Slot} {b : Int} {k : RP → Int → Prop} {ta tb te : TE} {i : Nat} {p q : RP}
theorem G.mono {k' : RP → Int → Prop} (h : G e te ρ b k) (i : ∀ p b, k p b → k' p b) : G e te ρ b k' := fun Z σ Hf H Q s q => h Z σ Hf H Q s fun p b' v Hf' H' x => q p b' v Hf' H' (i _ _ x)
theorem T.mono {t : TT} {k k' : Bool → Int → Prop} (h : T e t ρ b k) (i : ∀ p b, k p b → k' p b) : T e t ρ b k' := fun Z σ Hf H Q s q => h Z σ Hf H Q s fun p b' Hf' H' x => q p b' Hf' H' (i _ _ x)
theorem S.mono {t : TS} {N N' : List Slot → Int → Prop} {R R' : RP → Int → Prop} (h : S e t ρ b N R) (i : ∀ p b, N p b → N' p b) (j : ∀ p b, R p b → R' p b) : S e t ρ b N' R' :=
  fun Z σ Hf H D s q r => h Z σ Hf H D s (fun p b' σ' Hf' H' x => q p b' σ' Hf' H' (i _ _ x)) fun p b' ρ' v σ' Hf' H' x => r p b' ρ' v σ' Hf' H' (j _ _ x)
theorem g_var (h : ρ[i]? = some (.val p)) (x : k p b) : G e (tVar i) ρ b k := fun Z σ Hf H Q s q => by
  obtain ⟨v, e, r⟩ := s.val h
  exact ⟨v, e, q p b v Hf H x s (.refl _) r⟩
theorem g_c {v : V} (x : k (cV v) b) : G e (tC v) ρ b k := fun Z σ Hf H Q s q => q (cV v) b v Hf H x s (.refl _) rfl
theorem ga_nil {k : List RP → Int → Prop} (x : k [] b) : GA e tNil ρ b k := fun Z σ Hf H Q s q => q [] b [] Hf H x s (.refl _) .nil
theorem ga_cons {k : List RP → Int → Prop} {tr : TA} (h : G e ta ρ b fun p b1 => GA e tr ρ b1 fun ps b2 => k (p :: ps) b2) : GA e (tCons ta tr) ρ b k := fun Z σ Hf H Q s q =>
  h Z σ Hf H _ s fun p b1 v Hf1 H1 x s1 e1 r => x Z σ Hf1 H1 _ s1 fun ps b2 vs Hf2 H2 y s2 e2 r2 => q _ b2 _ Hf2 H2 y s2 (e1.trans e2) (.cons (RP.m _ e2 r) r2)
/-- an operation on two values -/
def O2 (r : R2) (p q : RP) (k : RP → Prop) : Prop := ∀ (Hf H : Hp) (x y : V) (Q : VK), Same Hf H → p.r Hf x → q.r Hf y → (∀ z v Hf' H', k z → Ex Hf H Hf' H' → z.r Hf' v → Q v H') → r x y H Q
def O1 (r : V → Hp → VK → Prop) (p : RP) (k : RP → Prop) : Prop := ∀ (Hf H : Hp) (x : V) (Q : VK), Same Hf H → p.r Hf x → (∀ z v Hf' H', k z → Ex Hf H Hf' H' → z.r Hf' v → Q v H') → r x H Q
def OC (r : List V → Hp → VK → Prop) (ps : List RP) (k : RP → Prop) : Prop := ∀ (Hf H : Hp) (xs : List V) (Q : VK), Same Hf H → Rps Hf ps xs → (∀ z v Hf' H', k z → Ex Hf H Hf' H' → z.r Hf' v → Q v H') → r xs H Q
theorem g_op {r : R2} (h : G e ta ρ b fun p b1 => G e tb ρ b1 fun q b2 => O2 r p q fun z => k z b2) : G e (tOp r ta tb) ρ b k := fun Z σ Hf H Q s c =>
  h Z σ Hf H _ s fun p b1 v Hf1 H1 x s1 e1 r1 => x Z σ Hf1 H1 _ s1 fun q b2 u Hf2 H2 y s2 e2 r2 => y Hf2 H2 v u _ s2.sf (RP.m _ e2 r1) r2 fun z w Hf3 H3 kz e3 rz => c z b2 w Hf3 H3 kz (s2.move e3) ((e1.trans e2).trans e3.ff) rz
theorem g_un {r : V → Hp → VK → Prop} (h : G e ta ρ b fun p b1 => O1 r p fun z => k z b1) : G e (tUn r ta) ρ b k := fun Z σ Hf H Q s c =>
  h Z σ Hf H _ s fun p b1 v Hf1 H1 x s1 e1 r1 => x Hf1 H1 v _ s1.sf r1 fun z w Hf3 H3 kz e3 rz => c z b1 w Hf3 H3 kz (s1.move e3) (e1.trans e3.ff) rz
theorem g_cb {r : List V → Hp → VK → Prop} {t : TA} (h : GA e t ρ b fun ps b1 => OC r ps fun z => k z b1) : G e (tCB r t) ρ b k := fun Z σ Hf H Q s c =>
  h Z σ Hf H _ s fun p b1 v Hf1 H1 x s1 e1 r1 => x Hf1 H1 v _ s1.sf r1 fun z w Hf3 H3 kz e3 rz => c z b1 w Hf3 H3 kz (s1.move e3) (e1.trans e3.ff) rz
/-- values alone, the heap as it is -/
theorem o2_i0 {g : Int → Int → V} {x y : Int} {k : RP → Prop} (h : k (cV (g x y))) : O2 (rI0 g) (I x) (I y) k := fun Hf H v u Q s r1 r2 c => ⟨x, y, r1, r2, c _ _ Hf H h (.refl s) rfl⟩
theorem o2_i {C : Int → Int → Prop} {g : Int → Int → V} {x y : Int} {k : RP → Prop} (hc : C x y) (h : k (cV (g x y))) : O2 (rI C g) (I x) (I y) k := fun Hf H v u Q s r1 r2 c => ⟨x, y, r1, r2, hc, c _ _ Hf H h (.refl s) rfl⟩
theorem o1_i {g : Int → V} {x : Int} {k : RP → Prop} (h : k (cV (g x))) : O1 (rU g) (I x) k := fun Hf H v Q s r1 c => ⟨x, r1, c _ _ Hf H h (.refl s) rfl⟩
theorem o2_eq {x y : V} {k : RP → Prop} (hs : scal x y = true) (h : k (B (decide (x = y)))) : O2 rEq (cV x) (cV y) k := fun Hf H v u Q s r1 r2 c => by
  cases (show v = x from r1)
  cases (show u = y from r2)
  exact ⟨hs, c _ _ Hf H h (.refl s) rfl⟩
theorem o2_ne {x y : V} {k : RP → Prop} (hs : scal x y = true) (h : k (B (!decide (x = y)))) : O2 rNe (cV x) (cV y) k := fun Hf H v u Q s r1 r2 c => by
  cases (show v = x from r1)
  cases (show u = y from r2)
  exact ⟨hs, c _ _ Hf H h (.refl s) rfl⟩

/-! ### lists, tuples -/
theorem g_tup {t : TA} (h : GA e t ρ b fun ps b1 => ps.length ≤ 1000000 ∧ k (tR ps) b1) : G e (tTup t) ρ b k := fun Z σ Hf H Q s c =>
  h Z σ Hf H _ s fun ps b1 vs Hf1 H1 ⟨hl, x⟩ s1 e1 r1 => ⟨by have := Paired.length r1; have := sizeLine_eq; omega, fun a na => by
    have z := Ex.new (o := .tup vs) s1.sf na
    exact c _ b1 _ _ _ x (s1.move z) (e1.trans z.ff) ⟨a, vs, rfl, upd_same, r1.same z.ff⟩⟩
theorem g_lst {t : TA} (h : GA e t ρ b fun ps b1 => ps.length ≤ 1000000 ∧ k (lR ps) b1) : G e (tLst t) ρ b k := fun Z σ Hf H Q s c =>
  h Z σ Hf H _ s fun ps b1 vs Hf1 H1 ⟨hl, x⟩ s1 e1 r1 => ⟨by have := Paired.length r1; have := sizeLine_eq; omega, fun a na => by
    have z := Ex.new (o := .lst vs) s1.sf na
    exact c _ b1 _ _ _ x (s1.move z) (e1.trans z.ff) ⟨a, vs, rfl, upd_same, r1.same z.ff⟩⟩
theorem gn_lst {t : TA} {k : List RP → Int → Prop} (h : GA e t ρ b fun ps b1 => ps.length ≤ 1000000 ∧ k ps b1) : GN e (tLst t) ρ b k := fun Z σ Hf H Q s c =>
  h Z σ Hf H _ s fun ps b1 vs Hf1 H1 ⟨hl, x⟩ s1 e1 r1 => ⟨by have := Paired.length r1; have := sizeLine_eq; omega, fun a na => by
    have z := Ex.newU (o := .lst vs) s1.sf na
    exact c ps b1 a vs Hf1 H1 Hf1 _ x s1 e1 z na (s1.sf.free na) upd_same r1⟩
theorem o2_ixL {K : PySem.W.Frag} {ps : List RP} {j : Int} {p : RP} {k : RP → Prop} (hp : atI ps j = some p) (h : k p) : O2 (rIxL K) (lR ps) (I j) k := fun Hf H v u Q s r1 r2 c => by
  obtain ⟨a, vs, rfl, ha, rr⟩ := r1
  cases (show u = .int j from r2)
  unfold atI at hp
  rw [Paired.length rr] at hp
  cases en : ixN vs.length j with
  | none => rw [en] at hp; cases hp
  | some n =>
    rw [en] at hp
    obtain ⟨w, e1, e2⟩ := rr.get hp
    exact ⟨a, vs, j, w, rfl, rfl, SqL.of (s _ _ ha), by unfold atI; rw [en]; exact e1, c p w Hf H h (.refl s) e2⟩
theorem o2_ixT {K : PySem.W.Frag} {ps : List RP} {j : Int} {p : RP} {k : RP → Prop} (hp : atI ps j = some p) (h : k p) : O2 (rIxT K) (tR ps) (I j) k := fun Hf H v u Q s r1 r2 c => by
  obtain ⟨a, vs, rfl, ha, rr⟩ := r1
  cases (show u = .int j from r2)
  unfold atI at hp
  rw [Paired.length rr] at hp
  cases en : ixN vs.length j with
  | none => rw [en] at hp; cases hp
  | some n =>
    rw [en] at hp
    obtain ⟨w, e1, e2⟩ := rr.get hp
    exact ⟨a, vs, j, w, rfl, rfl, SqT.of (s _ _ ha), by unfold atI; rw [en]; exact e1, c p w Hf H h (.refl s) e2⟩
/-- data: what == and repr read -/
def HasD (K : PySem.W.Frag) (p : RP) (d : PyData) : Prop := ∀ H v, p.r H v → Dp K H v d
def HasDs (K : PySem.W.Frag) (ps : List RP) (ds : List PyData) : Prop := Paired (HasD K) ps ds
section
variable {K : PySem.W.Frag}
theorem hd_int (n : Int) : HasD K (I n) (.int n) := fun H v h => by cases (show v = .int n from h); exact .int n
theorem hd_bl (n : Bool) : HasD K (B n) (.bool n) := fun H v h => by cases (show v = .bl n from h); exact .bl n
theorem hd_str (n : Str) : HasD K (St' n) (.str n) := fun H v h => by cases (show v = .str n from h); exact .str n
theorem hd_non : HasD K Nn .none := fun H v h => by cases (show v = .non from h); exact .non
theorem hd_all {H : Hp} : ∀ {ps : List RP} {ds : List PyData} {vs : List V}, HasDs K ps ds → Rps H ps vs → DpAll K H vs ds
  | _, _, _, .nil, .nil => .nil
  | _, _, _, .cons h t, .cons g u => .cons (h _ _ g) (hd_all t u)
theorem hd_l {ps : List RP} {ds : List PyData} (h : HasDs K ps ds) : HasD K (lR ps) (.list ds) := fun H v ⟨a, vs, e, ha, r⟩ => by subst e; exact .lst (SqL.of ha) (hd_all h r)
theorem hd_t {ps : List RP} {ds : List PyData} (h : HasDs K ps ds) : HasD K (tR ps) (.tuple ds) := fun H v ⟨a, vs, e, ha, r⟩ => by subst e; exact .tup (SqT.of ha) (hd_all h r)
theorem hd_map {α : Type} {f : α → RP} {g : α → PyData} (h : ∀ x, HasD K (f x) (g x)) : ∀ xs : List α, HasDs K (xs.map f) (xs.map g)
  | [] => .nil
  | x :: r => .cons (h x) (hd_map h r)
theorem o2_eqD {d f : PyData} {p q : RP} {k : RP → Prop} (hp : HasD K p d) (hq : HasD K q f) (h1 : SeqAt.shaped d = true) (h2 : SeqAt.shaped f = true) (h : k (B (PyData.eqv d f))) : O2 (rEqD K) p q k := fun Hf H v u Q s r1 r2 c =>
  ⟨d, f, hp _ _ (RP.m _ s r1), hq _ _ (RP.m _ s r2), h1, h2, c _ _ Hf H h (.refl s) rfl⟩
theorem o2_neD {d f : PyData} {p q : RP} {k : RP → Prop} (hp : HasD K p d) (hq : HasD K q f) (h1 : SeqAt.shaped d = true) (h2 : SeqAt.shaped f = true) (h : k (B (!PyData.eqv d f))) : O2 (rNeD K) p q k := fun Hf H v u Q s r1 r2 c =>
  ⟨d, f, hp _ _ (RP.m _ s r1), hq _ _ (RP.m _ s r2), h1, h2, c _ _ Hf H h (.refl s) rfl⟩
theorem oc_repr {d : PyData} {p : RP} {k : RP → Prop} (hp : HasD K p d) (hs : Shw d) (ha : ∀ H v, p.r H v → ∃ a, v = .ref a) (h : k (St' d.shown)) : OC (rRepr K) [p] k := fun Hf H xs Q s r c => by
  cases r with
  | cons r1 r2 =>
    cases r2
    obtain ⟨a, e⟩ := ha _ _ r1
    subst e
    exact ⟨a, d, rfl, hp _ _ (RP.m _ s r1), hs, c _ _ Hf H h (.refl s) rfl⟩
end
theorem ref_l {ps : List RP} : ∀ H v, (lR ps).r H v → ∃ a, v = .ref a := fun H v ⟨a, vs, e, _⟩ => ⟨a, e⟩
theorem ref_t {ps : List RP} : ∀ H v, (tR ps).r H v → ∃ a, v = .ref a := fun H v ⟨a, vs, e, _⟩ => ⟨a, e⟩

/-! ### tests -/
theorem t_test {k : Bool → Int → Prop} (h : G e te ρ b fun p b1 => ∃ c, p = B c ∧ k c b1) : T e (tTest te) ρ b k := fun Z σ Hf H Q s q =>
  h Z σ Hf H _ s fun p b1 v Hf1 H1 ⟨c, hp, x⟩ s1 e1 r => by subst hp; exact ⟨c, r, q c b1 Hf1 H1 x s1 e1⟩
theorem t_B {k : Bool → Int → Prop} (h : G e te ρ b fun p b1 => ∃ c, p = B c ∧ k c b1) : T e (tB te) ρ b k := fun Z σ Hf H Q s q =>
  h Z σ Hf H _ s fun p b1 v Hf1 H1 ⟨c, hp, x⟩ s1 e1 r => by subst hp; exact ⟨c, r, q c b1 Hf1 H1 x s1 e1⟩
theorem t_not {t : TT} {k : Bool → Int → Prop} (h : T e t ρ b fun c b1 => k (!c) b1) : T e (tNot t) ρ b k := fun Z σ Hf H Q s q => h Z σ Hf H _ s fun c b1 Hf1 H1 x s1 e1 => q (!c) b1 Hf1 H1 x s1 e1
theorem t_and {t u : TT} {k : Bool → Int → Prop} (h : T e t ρ b fun c b1 => (c = true → T e u ρ b1 k) ∧ (c = false → k false b1)) : T e (tAnd t u) ρ b k := fun Z σ Hf H Q s q =>
  h Z σ Hf H _ s fun c b1 Hf1 H1 ⟨x, y⟩ s1 e1 => by
    cases c with
    | true => exact x rfl Z σ Hf1 H1 _ s1 fun d b2 Hf2 H2 z s2 e2 => q d b2 Hf2 H2 z s2 (e1.trans e2)
    | false => exact q false b1 Hf1 H1 (y rfl) s1 e1
theorem t_or {t u : TT} {k : Bool → Int → Prop} (h : T e t ρ b fun c b1 => (c = true → k true b1) ∧ (c = false → T e u ρ b1 k)) : T e (tOr t u) ρ b k := fun Z σ Hf H Q s q =>
  h Z σ Hf H _ s fun c b1 Hf1 H1 ⟨x, y⟩ s1 e1 => by
    cases c with
    | false => exact y rfl Z σ Hf1 H1 _ s1 fun d b2 Hf2 H2 z s2 e2 => q d b2 Hf2 H2 z s2 (e1.trans e2)
    | true => exact q true b1 Hf1 H1 (x rfl) s1 e1
theorem g_if {t : TT} (h : T e t ρ b fun c b1 => (c = true → G e ta ρ b1 k) ∧ (c = false → G e tb ρ b1 k)) : G e (tIf t ta tb) ρ b k := fun Z σ Hf H Q s q =>
  h Z σ Hf H _ s fun c b1 Hf1 H1 ⟨x, y⟩ s1 e1 => by
    cases c with
    | true => exact x rfl Z σ Hf1 H1 _ s1 fun d b2 v Hf2 H2 z s2 e2 r => q d b2 v Hf2 H2 z s2 (e1.trans e2) r
    | false => exact y rfl Z σ Hf1 H1 _ s1 fun d b2 v Hf2 H2 z s2 e2 r => q d b2 v Hf2 H2 z s2 (e1.trans e2) r
theorem g_and (h : G e ta ρ b fun p b1 => ∃ c, p = B c ∧ (c = true → G e tb ρ b1 k) ∧ (c = false → k (B false) b1)) : G e (tAndV ta tb) ρ b k := fun Z σ Hf H Q s q =>
  h Z σ Hf H _ s fun p b1 v Hf1 H1 ⟨c, hp, x, y⟩ s1 e1 r => by
    subst hp
    refine ⟨c, r, ?_⟩
    cases c with
    | true => exact x rfl Z σ Hf1 H1 _ s1 fun d b2 v Hf2 H2 z s2 e2 r => q d b2 v Hf2 H2 z s2 (e1.trans e2) r
    | false => exact q _ b1 _ Hf1 H1 (y rfl) s1 e1 rfl
theorem g_or (h : G e ta ρ b fun p b1 => ∃ c, p = B c ∧ (c = true → k (B true) b1) ∧ (c = false → G e tb ρ b1 k)) : G e (tOrV ta tb) ρ b k := fun Z σ Hf H Q s q =>
  h Z σ Hf H _ s fun p b1 v Hf1 H1 ⟨c, hp, x, y⟩ s1 e1 r => by
    subst hp
    refine ⟨c, r, ?_⟩
    cases c with
    | false => exact y rfl Z σ Hf1 H1 _ s1 fun d b2 v Hf2 H2 z s2 e2 r => q d b2 v Hf2 H2 z s2 (e1.trans e2) r
    | true => exact q _ b1 _ Hf1 H1 (x rfl) s1 e1 rfl
theorem g_not (h : G e ta ρ b fun p b1 => ∃ c, p = B c ∧ k (B (!c)) b1) : G e (tNotV ta) ρ b k := fun Z σ Hf H Q s q =>
  h Z σ Hf H _ s fun p b1 v Hf1 H1 ⟨c, hp, x⟩ s1 e1 r => by subst hp; exact ⟨c, r, q _ b1 _ Hf1 H1 x s1 e1 rfl⟩

/-! ### statements -/
variable {N : List Slot → Int → Prop} {R : RP → Int → Prop} {t1 t2 : TS}
theorem s_next (h : N ρ b) : S e tNext ρ b N R := fun Z σ Hf H D s n r => n ρ b σ Hf H h s (.refl _)
theorem s_seq (h : S e t1 ρ b (fun ρ1 b1 => S e t2 ρ1 b1 N R) R) : S e (tSeq t1 t2) ρ b N R := fun Z σ Hf H D s n r =>
  h Z σ Hf H _ s (fun ρ1 b1 σ1 Hf1 H1 x s1 e1 => x Z σ1 Hf1 H1 D s1 (fun ρ2 b2 σ2 Hf2 H2 y s2 e2 => n ρ2 b2 σ2 Hf2 H2 y s2 (e1.trans e2)) fun p b2 ρ2 v σ2 Hf2 H2 y s2 e2 => r p b2 ρ2 v σ2 Hf2 H2 y s2 (e1.trans e2)) r
theorem s_set (h : G e te ρ b fun p b1 => N (ρ.set i (.val p)) b1) : S e (tAsg te (gName i)) ρ b N R := fun Z σ Hf H D s n r =>
  h Z σ Hf H _ s fun p b1 v Hf1 H1 x s1 e1 r1 => n _ b1 _ Hf1 H1 x (s1.put i r1) e1
theorem s_own (h : GN e te ρ b fun ps b1 => N (ρ.set i (.own ps)) b1) : S e (tAsg te (gName i)) ρ b N R := fun Z σ Hf H D s n r =>
  h Z σ Hf H _ s fun ps b1 q vs Hf1 H1 Hf2 H2 x s1 e1 z n1 n2 h2 rr => n _ b1 _ Hf2 H2 x (s1.putOwn i z n1 n2 h2 rr) (e1.trans z.ff)
theorem s_ret (h : G e te ρ b R) : S e (tRet te) ρ b N R := fun Z σ Hf H D s n r =>
  h Z σ Hf H _ s fun p b1 v Hf1 H1 x s1 e1 r1 => r p b1 ρ v σ Hf1 H1 x s1 e1 r1
theorem s_retN (h : R Nn b) : S e tRetN ρ b N R := fun Z σ Hf H D s n r => r Nn b ρ .non σ Hf H h s (.refl _) rfl
theorem s_drop (h : G e te ρ b fun _ b1 => N ρ b1) : S e (tDrop te) ρ b N R := fun Z σ Hf H D s n r =>
  h Z σ Hf H _ s fun p b1 v Hf1 H1 x s1 e1 r1 => n _ b1 _ Hf1 H1 x s1 e1
theorem s_if {t : TT} (h : T e t ρ b fun c b1 => (c = true → S e t1 ρ b1 N R) ∧ (c = false → S e t2 ρ b1 N R)) : S e (tIfS t t1 t2) ρ b N R := fun Z σ Hf H D s n r =>
  h Z σ Hf H _ s fun c b1 Hf1 H1 ⟨x, y⟩ s1 e1 => by
    cases c with
    | true => exact x rfl Z σ Hf1 H1 D s1 (fun ρ2 b2 σ2 Hf2 H2 y s2 e2 => n ρ2 b2 σ2 Hf2 H2 y s2 (e1.trans e2)) fun p b2 ρ2 v σ2 Hf2 H2 y s2 e2 => r p b2 ρ2 v σ2 Hf2 H2 y s2 (e1.trans e2)
    | false => exact y rfl Z σ Hf1 H1 D s1 (fun ρ2 b2 σ2 Hf2 H2 y s2 e2 => n ρ2 b2 σ2 Hf2 H2 y s2 (e1.trans e2)) fun p b2 ρ2 v σ2 Hf2 H2 y s2 e2 => r p b2 ρ2 v σ2 Hf2 H2 y s2 (e1.trans e2)
/-- one's own list is changed no more -/
theorem StOk.freeze {Z : Zn} {σ : L2.St} {Hf H : Hp} {ps : List RP} (h : ρ[i]? = some (.own ps)) (s : StOk e Z ρ b σ Hf H) : ∃ Hf', Same Hf Hf' ∧ StOk e Z (ρ.set i (.val (lR ps))) b σ Hf' H := by
  obtain ⟨a, vs, e1, e2, e3, e4, e5⟩ := s.own h
  have ff : Same Hf (L2.upd Hf a (.lst vs)) := .new1 e2
  have fh : Same (L2.upd Hf a (.lst vs)) H := fun c o x => by
    by_cases z : c = a
    · subst z; rw [upd_same] at x; cases x; exact e3
    · rw [upd_ne z] at x; exact s.sf _ _ x
  have es := set_self e1
  have sl : Paired (SlotOk e (L2.upd Hf a (.lst vs)) H) (ρ.set i (.val (lR ps))) (σ.set i (some (.ref a))) := by
    refine RL.Paired.ix (by rw [List.length_set, List.length_set]; exact Paired.length s.sl) fun j x y hx hy => ?_
    rcases set_get hx with ⟨rfl, rfl⟩ | ⟨nj, hx⟩
    · rcases set_get hy with ⟨_, rfl⟩ | ⟨z, _⟩
      · exact ⟨_, rfl, a, vs, rfl, upd_same, e4.same ff⟩
      · exact (z rfl).elim
    · rw [List.getElem?_set_ne (Ne.symm nj)] at hy
      obtain ⟨y', hy', g⟩ := Paired.get s.sl hx
      rw [hy] at hy'
      cases hy'
      cases x with
      | no => trivial
      | val p => obtain ⟨v, e, r⟩ := g; exact ⟨v, e, RP.m _ ff r⟩
      | own qs =>
        obtain ⟨c, ws, z1, z2, z3, z4, z5⟩ := g
        refine ⟨c, ws, z1, ?_, z3, z4.same ff, z5⟩
        subst z1
        rw [upd_ne fun z => s.ap i j a ps qs (Ne.symm nj) h hx e1 (by rw [hy, z])]
        exact z2
      | pen => exact g
  rw [es] at sl
  refine ⟨_, ff, fh, s.fr, s.f0.trans ff, fun c o z zm zn => by rw [upd_ne (ne_of_none z (s.on i a ps h e1))]; exact s.nw c o z zm zn, fun x hx => ⟨(s.pn x hx).1, by rw [upd_ne (Ne.symm (e5 x hx).1)]; exact (s.pn x hx).2⟩, sl, fun j k c ps1 qs1 ne h1 h2 h3 h4 => ?_, fun j c ps1 h1 h3 => ?_, s.ex⟩
  rotate_left
  · rcases set_get h1 with ⟨_, z⟩ | ⟨n1, h1⟩
    · cases z
    exact s.on j c ps1 h1 h3
  rcases set_get h1 with ⟨_, z⟩ | ⟨n1, h1⟩
  · cases z
  rcases set_get h2 with ⟨_, z⟩ | ⟨n2, h2⟩
  · cases z
  exact s.ap j k c ps1 qs1 ne h1 h2 h3 h4
theorem s_frz {t : TS} {ps : List RP} (i : Nat) (h : ρ[i]? = some (.own ps)) (x : S e t (ρ.set i (.val (lR ps))) b N R) : S e t ρ b N R := fun Z σ Hf H D s n r => by
  obtain ⟨Hf', ff, s'⟩ := s.freeze h
  exact x Z σ Hf' H D s' (fun ρ2 b2 σ2 Hf2 H2 y s2 e2 => n ρ2 b2 σ2 Hf2 H2 y s2 (ff.trans e2)) fun p b2 ρ2 v σ2 Hf2 H2 y s2 e2 => r p b2 ρ2 v σ2 Hf2 H2 y s2 (ff.trans e2)
/-- xs.append(e), xs one's own -/
theorem s_app {K : PySem.W.Frag} {ps : List RP} (h : ρ[i]? = some (.own ps)) (hl : ps.length < 1000000) (x : G e te ρ b fun p b1 => N (ρ.set i (.own (ps ++ [p]))) b1) : S e (tDrop (tBM K "list" rAppend (tVar i) (tCons te tNil))) ρ b N R := fun Z σ Hf H D s n r => by
  obtain ⟨a, vs, e1, e2, e3, e4, e5⟩ := s.own h
  refine ⟨_, e1, .inl ⟨rfl, vs, SqL.of e3⟩, ?_⟩
  refine x Z σ Hf H _ s fun p b1 v Hf1 H1 nx s1 ee r1 => ?_
  obtain ⟨a', vs', f1, f2, f3, f4, f5⟩ := s1.own h
  rw [e1] at f1
  cases f1
  have la := Paired.length f4
  refine ⟨a, vs', v, rfl, rfl, f3, by have := sizeLine_eq; omega, ?_⟩
  have es := set_self e1
  have hN := n _ b1 σ Hf1 (L2.upd H1 a (.lst (vs' ++ [v]))) nx
  refine hN ?_ ee
  have sf : Same Hf1 (L2.upd H1 a (.lst (vs' ++ [v]))) := fun c o z => by rw [upd_ne (ne_of_none z f2)]; exact s1.sf _ _ z
  have sl : Paired (SlotOk e Hf1 (L2.upd H1 a (.lst (vs' ++ [v])))) (ρ.set i (.own (ps ++ [p]))) (σ.set i (some (.ref a))) := by
    refine RL.Paired.ix (by rw [List.length_set, List.length_set]; exact Paired.length s.sl) fun j x y hx hy => ?_
    rcases set_get hx with ⟨rfl, rfl⟩ | ⟨nj, hx⟩
    · rcases set_get hy with ⟨_, rfl⟩ | ⟨z, _⟩
      · exact ⟨a, _, rfl, f2, upd_same, f4.append (.cons r1 .nil), f5⟩
      · exact (z rfl).elim
    · rw [List.getElem?_set_ne (Ne.symm nj)] at hy
      obtain ⟨y', hy', g⟩ := Paired.get s1.sl hx
      rw [hy] at hy'
      cases hy'
      cases x with
      | no => trivial
      | val p => exact g
      | own qs =>
        obtain ⟨c, ws, z1, z2, z3, z4, z5⟩ := g
        subst z1
        refine ⟨c, ws, rfl, z2, ?_, z4, z5⟩
        rw [upd_ne fun z => s1.ap i j a ps qs (Ne.symm nj) h hx e1 (by rw [hy, z])]
        exact z3
      | pen => exact g
  rw [es] at sl
  refine ⟨sf, fun c o z zn => ?_, s1.f0, s1.nw, fun y hy => ⟨(s1.pn y hy).1.upd (f5 y hy).1 (f5 y hy).2, (s1.pn y hy).2⟩, sl, fun j k c ps1 qs1 ne h1 h2 h3 h4 => ?_, fun j c ps1 h1 h3 => ?_, s1.ex⟩
  · rw [upd_ne (ne_of_none z (s1.on i a ps h e1))]
    exact s1.fr c o z zn
  · have fix : ∀ {m : Nat} {qs : List RP}, (ρ.set i (.own (ps ++ [p])))[m]? = some (.own qs) → ∃ qs', ρ[m]? = some (.own qs') := fun {m qs} z => by
      rcases set_get z with ⟨z1, _⟩ | ⟨_, z2⟩
      · subst z1; exact ⟨_, h⟩
      · exact ⟨_, z2⟩
    obtain ⟨q1, g1⟩ := fix h1
    obtain ⟨q2, g2⟩ := fix h2
    exact s1.ap j k c q1 q2 ne g1 g2 h3 h4
  · rcases set_get h1 with ⟨z1, _⟩ | ⟨_, z2⟩
    · subst z1; exact s1.on _ c _ h h3
    · exact s1.on j c ps1 z2 h3

/-! ### targets -/
def At (e : Ev) (g : TG) (p : RP) (ρ : List Slot) (b : Int) (N : List Slot → Int → Prop) : Prop :=
  ∀ (Z : Zn) (σ : L2.St) (Hf H : Hp) (v : V) (Q : L2.St → Hp → Prop), StOk e Z ρ b σ Hf H → p.r Hf v → (∀ ρ' σ', N ρ' b → StOk e Z ρ' b σ' Hf H → Q σ' H) → g v σ H Q
def Ats (e : Ev) (g : TGs) (ps : List RP) (ρ : List Slot) (b : Int) (N : List Slot → Int → Prop) : Prop :=
  ∀ (Z : Zn) (σ : L2.St) (Hf H : Hp) (vs : List V) (Q : L2.St → Hp → Prop), StOk e Z ρ b σ Hf H → Rps Hf ps vs → (∀ ρ' σ', N ρ' b → StOk e Z ρ' b σ' Hf H → Q σ' H) → g vs σ H Q
theorem a_name (h : N (ρ.set i (.val p)) b) : At e (gName i) p ρ b N := fun Z σ Hf H v Q s r c => c _ _ h (s.put i r)
theorem a_nil (h : N ρ b) : Ats e gNil [] ρ b N := fun Z σ Hf H vs Q s r c => by cases r; exact ⟨rfl, c _ _ h s⟩
theorem a_cons {g : TG} {gs : TGs} {ps : List RP} (h : At e g p ρ b fun ρ1 b1 => Ats e gs ps ρ1 b1 N) : Ats e (gCons g gs) (p :: ps) ρ b N := fun Z σ Hf H vs Q s r c => by
  cases r with
  | cons r1 r2 => exact ⟨_, _, rfl, h Z σ Hf H _ _ s r1 fun ρ1 σ1 x s1 => x Z σ1 Hf H _ _ s1 r2 c⟩
theorem a_tup {K : PySem.W.Frag} {n : Nat} {gs : TGs} {ps : List RP} (hn : ps.length = n) (h : Ats e gs ps ρ b N) : At e (gTup K n gs) (tR ps) ρ b N := fun Z σ Hf H v Q s r c => by
  obtain ⟨a, vs, rfl, ha, rr⟩ := r
  exact ⟨a, vs, rfl, SqT.of (s.sf _ _ ha), by rw [← Paired.length rr]; exact hn, h Z σ Hf H vs Q s rr c⟩
theorem s_asg {g : TG} (h : G e te ρ b fun p b1 => At e g p ρ b1 N) : S e (tAsg te g) ρ b N R := fun Z σ Hf H D s n r =>
  h Z σ Hf H _ s fun p b1 v Hf1 H1 x s1 e1 r1 => x Z σ Hf1 H1 v _ s1 r1 fun ρ' σ' y s2 => n ρ' b1 σ' Hf1 H1 y s2 e1
theorem s_par {i j : Nat} {t : TA} (h : GA e t ρ b fun ps b1 => ∃ p q, ps = [p, q] ∧ N ((ρ.set i (.val p)).set j (.val q)) b1) : S e (tPar i j t) ρ b N R := fun Z σ Hf H D s n r =>
  h Z σ Hf H _ s fun ps b1 vs Hf1 H1 ⟨p, q, hp, x⟩ s1 e1 r1 => by
    subst hp
    cases r1 with
    | cons r1 r2 =>
      cases r2 with
      | cons r2 r3 =>
        cases r3
        exact ⟨_, _, rfl, n _ b1 _ Hf1 H1 x ((s1.put i r1).put j r2) e1⟩

/-! ### defs by forms -/
/-- a def without the pen: from its arguments' forms to what is wanted of its value's form -/
def SpF (pre : List RP → (RP → Prop) → Prop) : Sp := fun vs H Q _ => ∃ (Hf : Hp) (ps : List RP) (k : RP → Prop), Same Hf H ∧ Rps Hf ps vs ∧ pre ps k ∧ ∀ p v Hf' H', k p → Ex Hf H Hf' H' → p.r Hf' v → Q v H'
/-- a def whose first argument is the pen -/
def SpP (pre : List RP → Int → (RP → Int → Prop) → Prop) : Sp := fun vs H Q _ => ∃ (x : Addr × Addr × List Int) (b : Int) (vs' : List V) (Hf : Hp) (ps : List RP) (k : RP → Int → Prop), vs = .ref x.1 :: vs' ∧ Pn x.1 x.2.1 x.2.2 b H ∧ Hf x.1 = none ∧ Same Hf H ∧ Rps Hf ps vs' ∧ pre ps b k ∧
  ∀ p v b' Hf' H', k p b' → Same Hf Hf' → Same Hf' H' → But x.1 H H' → Pn x.1 x.2.1 x.2.2 b' H' → (∀ a o, H a = some o → Mb o → Hf a = none → Hf' a = none) → p.r Hf' v → Q v H'
abbrev ev0 : Ev := { pen := none }
abbrev evP (x : Addr × Addr × List Int) : Ev := { pen := some x }
theorem ex0 {e : Ev} {Z : Zn} (h : ∀ C fs b, ¬ e.X C fs b) : ExcOk e Z := fun C d fs vs b Hf H x => (h _ _ _ x).elim
def ρ0 (N : List Str) (qs : List RP) : List Slot := qs.map Slot.val ++ List.replicate (N.length - qs.length) Slot.no
def ρP (N : List Str) (qs : List RP) : List Slot := Slot.pen :: (qs.map Slot.val ++ List.replicate (N.length - qs.length - 1) Slot.no)
theorem paired_no {e : Ev} {Hf H : Hp} : ∀ n : Nat, Paired (SlotOk e Hf H) (List.replicate n Slot.no) (List.replicate n none)
  | 0 => .nil
  | n + 1 => .cons trivial (paired_no n)
theorem paired_val {e : Ev} {Hf H : Hp} : ∀ {qs : List RP} {vs : List V}, Rps Hf qs vs → Paired (SlotOk e Hf H) (qs.map Slot.val) (vs.map some)
  | _, _, .nil => .nil
  | _, _, .cons h t => .cons ⟨_, rfl, h⟩ (paired_val t)
theorem Paired.app {α β : Type} {F : α → β → Prop} : ∀ {xs ys : List α} {us ws : List β}, Paired F xs us → Paired F ys ws → Paired F (xs ++ ys) (us ++ ws)
  | _, _, _, _, .nil, s => s
  | _, _, _, _, .cons h t, s => .cons h (Paired.app t s)
theorem noOwn {qs : List RP} {n : Nat} : ∀ (i : Nat) (ps : List RP), (qs.map Slot.val ++ List.replicate n Slot.no)[i]? ≠ some (Slot.own ps) := fun i ps h => by
  have m := List.mem_of_getElem? h
  rcases List.mem_append.mp m with m | m
  · obtain ⟨x, _, z⟩ := List.mem_map.mp m
    cases z
  · cases (List.mem_replicate.mp m).2
theorem run_F {N : List Str} {t : TS} {qs : List RP} {kk : RP → Prop} {vs : List V} {Hf H : Hp} {Q : VK} (st : S ev0 t (ρ0 N qs) 0 (fun _ _ => kk Nn) (fun p _ => kk p)) (s : Same Hf H) (r : Rps Hf qs vs)
    (c : ∀ p v Hf' H', kk p → Ex Hf H Hf' H' → p.r Hf' v → Q v H') : t { nx := fun _ H' => Q .non H', rt := Q } (L2.start N vs) H := by
  have hl := Paired.length r
  have fin : ∀ {Hf' H' : Hp} {ρ' : List Slot} {b' : Int} {σ' : L2.St}, StOk ev0 ⟨H, Hf⟩ ρ' b' σ' Hf' H' → Ex Hf H Hf' H' := fun z => ⟨z.f0, z.sf, fun a o h => z.fr a o h (fun x hx => by cases hx), z.nw⟩
  refine st ⟨H, Hf⟩ (L2.start N vs) Hf H _ ⟨s, Fr.refl, .refl _, fun _ _ _ _ n => n, (fun x hx => by cases hx), ?_, fun i j a ps qs _ h => (noOwn i ps h).elim, fun i a ps h => (noOwn i ps h).elim, ex0 fun _ _ _ z => z⟩ (fun ρ' b' σ' Hf' H' x z _ => c Nn .non Hf' H' x (fin z) rfl) fun p b' ρ' v σ' Hf' H' x z _ rv => c p v Hf' H' x (fin z) rv
  unfold ρ0 L2.start
  rw [hl]
  exact Paired.app (paired_val r) (paired_no _)
theorem run_P {N : List Str} {t : TS} {qs : List RP} {x : Addr × Addr × List Int} {b : Int} {kk : RP → Int → Prop} {vs : List V} {Hf H : Hp} {Q : VK} (st : S (evP x) t (ρP N qs) b (fun _ b' => kk Nn b') kk) (hP : Pn x.1 x.2.1 x.2.2 b H) (hn : Hf x.1 = none) (s : Same Hf H) (r : Rps Hf qs vs)
    (c : ∀ p v b' Hf' H', kk p b' → Same Hf Hf' → Same Hf' H' → But x.1 H H' → Pn x.1 x.2.1 x.2.2 b' H' → (∀ a o, H a = some o → Mb o → Hf a = none → Hf' a = none) → p.r Hf' v → Q v H') : t { nx := fun _ H' => Q .non H', rt := Q } (L2.start N (.ref x.1 :: vs)) H := by
  have hl := Paired.length r
  have fin : ∀ {Hf' H' : Hp} {ρ' : List Slot} {b' : Int} {σ' : L2.St} {p : RP} {v : V}, StOk (evP x) ⟨H, Hf⟩ ρ' b' σ' Hf' H' → kk p b' → p.r Hf' v → Q v H' := fun {Hf' H' ρ' b' σ' p v} z y rv =>
    c p v b' Hf' H' y z.f0 z.sf (fun a o h ne => z.fr a o h fun w hw => by cases hw; exact ne) (z.pn x rfl).1 z.nw rv
  have own : ∀ (i : Nat) (ps : List RP), (ρP N qs)[i]? ≠ some (Slot.own ps) := fun i ps h => by
    cases i with
    | zero => cases h
    | succ i => exact noOwn i ps (by simpa [ρP] using h)
  refine st ⟨H, Hf⟩ (L2.start N (.ref x.1 :: vs)) Hf H _ ⟨s, Fr.refl, .refl _, fun _ _ _ _ n => n, (fun y hy => by cases hy; exact ⟨hP, hn⟩), ?_, fun i j a ps qs _ h => (own i ps h).elim, fun i a ps h => (own i ps h).elim, ex0 fun _ _ _ z => z⟩ (fun ρ' b' σ' Hf' H' y z _ => fin (p := Nn) (v := .non) z y rfl) fun p b' ρ' v σ' Hf' H' y z _ rv => fin z y rv
  unfold ρP L2.start
  rw [List.map_cons, List.cons_append, List.length_cons, hl, Nat.sub_sub]
  exact .cons ⟨x, rfl, rfl⟩ (Paired.app (paired_val r) (paired_no _))
end
section
variable {P : Program} {w : World} {K : PySem.W.Frag} {mg : Str → Option Value} {base : Heap}
theorem _root_.OL.DefT.okF {x : Str} {st : Stmt} {ps N : List Str} {k : Nat} {pre : List RP → (RP → Prop) → Prop} (D : DefT K mg x st ps) (Sc : FnScope N ps (defScope st)) (len : ∀ qs kk, pre qs kk → qs.length = ps.length)
    (hbody : ∀ (f : Addr) (cdv : Value) (A : Around) (outer : List Env) (s : Shared) (H : Hp) (E : XK), RoomG k (A.deeper (envOfC x (defScope st) s.heap.objs.size f cdv)) →
      ∃ t, PSs (cxOf CX0 P w K mg base N x (defScope st) f cdv A outer s H E).nox (defBody st) t ∧ ∀ qs kk, pre qs kk → S ev0 t (ρ0 N qs) 0 (fun _ _ => kk Nn) (fun p _ => kk p)) : CalF P w K mg base (k + 1) x ps (SpF pre) := by
  refine D.ok Sc (fun vs H Q E ⟨Hf, qs, kk, s, r, h, _⟩ => by rw [← Paired.length r]; exact len qs kk h) fun f cdv A outer s H vs Q E hr h => ?_
  obtain ⟨t, ht, hs⟩ := hbody f cdv A outer s H E hr
  obtain ⟨Hf, qs, kk, sm, r, h, c⟩ := h
  exact ⟨t, ht, run_F (hs qs kk h) sm r c⟩
theorem _root_.OL.MethT.okF {C : Addr} {x qual : Str} {st : Stmt} {ps N : List Str} {k : Nat} {pre : List RP → (RP → Prop) → Prop} (D : MethT K C x qual st ps) (Sc : FnScope N ps (defScope st)) (len : ∀ qs kk, pre qs kk → qs.length = ps.length)
    (hbody : ∀ (f : Addr) (cdv : Value) (A : Around) (outer : List Env) (s : Shared) (H : Hp) (E : XK), RoomG k (A.deeper (envOfC qual (defScope st) s.heap.objs.size f cdv)) →
      ∃ t, PSs (cxOf CX0 P w K mg base N qual (defScope st) f cdv A outer s H E).nox (defBody st) t ∧ ∀ qs kk, pre qs kk → S ev0 t (ρ0 N qs) 0 (fun _ _ => kk Nn) (fun p _ => kk p)) : MetF P w K mg base (k + 1) C x ps (SpF pre) := by
  refine D.ok Sc (fun vs H Q E ⟨Hf, qs, kk, s, r, h, _⟩ => by rw [← Paired.length r]; exact len qs kk h) fun f cdv A outer s H vs Q E hr h => ?_
  obtain ⟨t, ht, hs⟩ := hbody f cdv A outer s H E hr
  obtain ⟨Hf, qs, kk, sm, r, h, c⟩ := h
  exact ⟨t, ht, run_F (hs qs kk h) sm r c⟩
theorem _root_.OL.DefT.okP {x : Str} {st : Stmt} {ps N : List Str} {k : Nat} {pre : List RP → Int → (RP → Int → Prop) → Prop} (D : DefT K mg x st ps) (Sc : FnScope N ps (defScope st)) (len : ∀ qs b kk, pre qs b kk → qs.length + 1 = ps.length)
    (hbody : ∀ (f : Addr) (cdv : Value) (A : Around) (outer : List Env) (s : Shared) (H : Hp) (E : XK), RoomG k (A.deeper (envOfC x (defScope st) s.heap.objs.size f cdv)) →
      ∃ t, PSs (cxOf CX0 P w K mg base N x (defScope st) f cdv A outer s H E).nox (defBody st) t ∧ ∀ y qs b kk, pre qs b kk → S (evP y) t (ρP N qs) b (fun _ b' => kk Nn b') kk) : CalF P w K mg base (k + 1) x ps (SpP pre) := by
  refine D.ok Sc (fun vs H Q E ⟨y, b, vs', Hf, qs, kk, ev, _, _, _, r, h, _⟩ => by subst ev; rw [List.length_cons, ← Paired.length r]; exact len qs b kk h) fun f cdv A outer s H vs Q E hr h => ?_
  obtain ⟨t, ht, hs⟩ := hbody f cdv A outer s H E hr
  obtain ⟨y, b, vs', Hf, qs, kk, rfl, hP, hn, sm, r, h, c⟩ := h
  exact ⟨t, ht, run_P (hs y qs b kk h) hP hn sm r c⟩
end
/-- an older promise serves as one by forms -/
def WkF (sp : Sp) (pre : List RP → (RP → Prop) → Prop) : Prop := ∀ vs H Q E, SpF pre vs H Q E → sp vs H Q E
def WkP (sp : Sp) (pre : List RP → Int → (RP → Int → Prop) → Prop) : Prop := ∀ vs H Q E, SpP pre vs H Q E → sp vs H Q E
theorem WkF.rfl' {pre : List RP → (RP → Prop) → Prop} : WkF (SpF pre) pre := fun _ _ _ _ h => h
theorem WkP.rfl' {pre : List RP → Int → (RP → Int → Prop) → Prop} : WkP (SpP pre) pre := fun _ _ _ _ h => h
section
variable {e : Ev} {ρ : List Slot} {b : Int} {k : RP → Int → Prop} {ta tb te : TE} {i : Nat} {p q : RP} {sp : Sp} {pre : List RP → (RP → Prop) → Prop} {preP : List RP → Int → (RP → Int → Prop) → Prop} {t : TA}
theorem g_f (w : WkF sp pre) (h : GA e t ρ b fun ps b1 => pre ps fun p => k p b1) : G e (tC1 sp t) ρ b k := fun Z σ Hf H Q s c =>
  h Z σ Hf H _ s fun ps b1 vs Hf1 H1 x s1 e1 r1 => w _ _ _ _ ⟨Hf1, ps, _, s1.sf, r1, x, fun p v Hf' H' kp ex rv => c p b1 v Hf' H' kp (s1.move ex) (e1.trans ex.ff) rv⟩
theorem g_new (w : WkF sp pre) (h : GA e t ρ b fun ps b1 => pre ps fun p => k p b1) : G e (tNew sp t) ρ b k := fun Z σ Hf H Q s c =>
  h Z σ Hf H _ s fun ps b1 vs Hf1 H1 x s1 e1 r1 => w _ _ _ _ ⟨Hf1, ps, _, s1.sf, r1, x, fun p v Hf' H' kp ex rv => c p b1 v Hf' H' kp (s1.move ex) (e1.trans ex.ff) rv⟩
theorem StOk.but {Z : Zn} {b' : Int} {σ : L2.St} {Hf H Hf' H' : Hp} {x : Addr × Addr × List Int} (hx : e.pen = some x) (s : StOk e Z ρ b σ Hf H) (a1 : Same Hf Hf') (a2 : Same Hf' H') (bt : But x.1 H H') (hP : Pn x.1 x.2.1 x.2.2 b' H') (nw : ∀ a o, H a = some o → Mb o → Hf a = none → Hf' a = none) : StOk e Z ρ b' σ Hf' H' := by
  refine ⟨a2, fun a o h n => bt a o (s.fr a o h n) (n x hx), s.f0.trans a1, fun a o h m n => let ⟨o', h', m'⟩ := s.oldM h m; nw a o' h' m' (s.nw a o h m n), fun y hy => ?_, Paired.mono (fun sl o h => ?_) s.sl, s.ap, s.on, s.ex⟩
  · rw [hx] at hy
    cases hy
    obtain ⟨h1, h2⟩ := s.pn x hx
    obtain ⟨sp, lf, ho, _⟩ := id h1
    exact ⟨hP, nw _ _ ho trivial h2⟩
  · cases sl with
    | no => trivial
    | val p => obtain ⟨v, e, r⟩ := h; exact ⟨v, e, RP.m _ a1 r⟩
    | own ps => obtain ⟨a, vs, e, n, h, r, q⟩ := h; exact ⟨a, vs, e, nw _ _ h trivial n, bt _ _ h (q x hx).1, r.same a1, q⟩
    | pen => exact h
theorem g_p (w : WkP sp preP) (hi : ρ[i]? = some .pen) (h : GA e t ρ b fun ps b1 => preP ps b1 k) : G e (tC1 sp (tCons (tVar i) t)) ρ b k := fun Z σ Hf H Q s c => by
  obtain ⟨o, ho, x, hx, eo⟩ := Paired.get s.sl hi
  subst eo
  refine ⟨_, ho, h Z σ Hf H _ s fun ps b1 vs Hf1 H1 y s1 e1 r1 => ?_⟩
  obtain ⟨p1, p2⟩ := s1.pn x hx
  exact w _ _ _ _ ⟨x, b1, vs, Hf1, ps, _, rfl, p1, p2, s1.sf, r1, y, fun p v b' Hf' H' kp a1 a2 bt hP nw rv => c p b' v Hf' H' kp (s1.but hx a1 a2 bt hP nw) (e1.trans a1) rv⟩
/-- an instance of the class at C without an attribute m -/
def IsI (p : RP) (C : Addr) (m : Str) : Prop := ∀ H v, p.r H v → ∃ a dx fs, v = .ref a ∧ H a = some (.ins C dx fs) ∧ fs.lookup m = none
theorem g_m {C : Addr} {m : Str} (w : WkF sp pre) (h : G e ta ρ b fun p b1 => IsI p C m ∧ GA e t ρ b1 fun ps b2 => pre (p :: ps) fun q => k q b2) : G e (OL.tM1 C m sp ta t) ρ b k := fun Z σ Hf H Q s c =>
  h Z σ Hf H _ s fun p b1 v Hf1 H1 ⟨hi, x⟩ s1 e1 r1 => by
    obtain ⟨a, dx, fs, rfl, ha, hl⟩ := hi _ _ r1
    exact ⟨a, dx, fs, rfl, s1.sf _ _ ha, hl, x Z σ Hf1 H1 _ s1 fun ps b2 vs Hf2 H2 y s2 e2 r2 => w _ _ _ _ ⟨Hf2, p :: ps, _, s2.sf, .cons (RP.m _ e2 r1) r2, y, fun q v Hf' H' kp ex rv => c q b2 v Hf' H' kp (s2.move ex) ((e1.trans e2).trans ex.ff) rv⟩⟩
/-- an attribute -/
def Fld (K : PySem.W.Frag) (p : RP) (f : Str) (q : RP) : Prop := ∀ H v, p.r H v → ∃ a C dx fs u, v = .ref a ∧ H a = some (.ins C dx fs) ∧ Cls K C ∧ NoAttr K C f ∧ fs.lookup f = some u ∧ q.r H u
theorem g_fld {K : PySem.W.Frag} {f : Str} (h : G e ta ρ b fun p b1 => ∃ q, Fld K p f q ∧ k q b1) : G e (tFld K ta f) ρ b k := fun Z σ Hf H Q s c =>
  h Z σ Hf H _ s fun p b1 v Hf1 H1 ⟨q, hf, x⟩ s1 e1 r1 => by
    obtain ⟨a, C, dx, fs, u, rfl, ha, hc, hn, hl, hq⟩ := hf _ _ r1
    exact ⟨a, C, dx, fs, u, rfl, s1.sf _ _ ha, hc, hn, hl, c q b1 u Hf1 H1 x s1 e1 hq⟩

/-! ### loops -/
variable {N : List Slot → Int → Prop} {R : RP → Int → Prop} {tb' : TS} {g : TG}
theorem s_forL {K : PySem.W.Frag} (Iv : Nat → List Slot → Int → Prop) (h : G e ta ρ b fun p b1 => ∃ ds, p = lR ds ∧ Iv 0 ρ b1 ∧ (∀ i d ρ' b', ds[i]? = some d → Iv i ρ' b' → At e g d ρ' b' fun ρ2 b2 => S e tb' ρ2 b2 (Iv (i + 1)) R) ∧ ∀ ρ' b', Iv ds.length ρ' b' → N ρ' b') :
    S e (tFor (iList K ta) g tb') ρ b N R := fun Z σ Hf H D s n r =>
  h Z σ Hf H _ s fun p b1 v Hf1 H1 ⟨ds, hp, i0, turn, fin⟩ s1 e1 r1 => by
    subst hp
    obtain ⟨a, vs, rfl, ha, rr⟩ := r1
    have hl := Paired.length rr
    refine ⟨a, rfl, ⟨vs, SqL.of (s1.sf _ _ ha)⟩, for_list (xs := vs) (fun i σ' H' => ∃ ρ' b' Hf', Iv i ρ' b' ∧ StOk e Z ρ' b' σ' Hf' H' ∧ Same Hf1 Hf') ⟨ρ, b1, Hf1, i0, s1, .refl _⟩ (fun i σ' H' _ ⟨ρ', b', Hf', _, s', e'⟩ => SqL.of (s'.sf _ _ (e' _ _ ha))) ?_ ?_⟩
    · rintro i v σ' H' hv ⟨ρ', b', Hf', iv, s', e'⟩
      obtain ⟨d, hd, rd⟩ := rr.get' hv
      refine turn i d ρ' b' hd iv Z σ' Hf' H' v _ s' (RP.m _ e' rd) fun ρ2 σ2 x s2 => ?_
      exact x Z σ2 Hf' H' _ s2 (fun ρ3 b3 σ3 Hf3 H3 y s3 e3 => ⟨ρ3, b3, Hf3, y, s3, e'.trans e3⟩) fun p b3 ρ3 u σ3 Hf3 H3 y s3 e3 ru => r p b3 ρ3 u σ3 Hf3 H3 y s3 ((e1.trans e').trans e3) ru
    · rintro σ' H' ⟨ρ', b', Hf', iv, s', e'⟩
      rw [← hl] at iv
      exact n ρ' b' σ' Hf' H' (fin ρ' b' iv) s' (e1.trans e')
theorem s_forT {K : PySem.W.Frag} (Iv : Nat → List Slot → Int → Prop) (h : G e ta ρ b fun p b1 => ∃ ds, p = tR ds ∧ Iv 0 ρ b1 ∧ (∀ i d ρ' b', ds[i]? = some d → Iv i ρ' b' → At e g d ρ' b' fun ρ2 b2 => S e tb' ρ2 b2 (Iv (i + 1)) R) ∧ ∀ ρ' b', Iv ds.length ρ' b' → N ρ' b') :
    S e (tFor (iTup K ta) g tb') ρ b N R := fun Z σ Hf H D s n r =>
  h Z σ Hf H _ s fun p b1 v Hf1 H1 ⟨ds, hp, i0, turn, fin⟩ s1 e1 r1 => by
    subst hp
    obtain ⟨a, vs, rfl, ha, rr⟩ := r1
    have hl := Paired.length rr
    refine ⟨a, rfl, ⟨vs, SqT.of (s1.sf _ _ ha)⟩, for_tup (xs := vs) (fun i σ' H' => ∃ ρ' b' Hf', Iv i ρ' b' ∧ StOk e Z ρ' b' σ' Hf' H' ∧ Same Hf1 Hf') ⟨ρ, b1, Hf1, i0, s1, .refl _⟩ (fun i σ' H' _ ⟨ρ', b', Hf', _, s', e'⟩ => SqT.of (s'.sf _ _ (e' _ _ ha))) ?_ ?_⟩
    · rintro i v σ' H' hv ⟨ρ', b', Hf', iv, s', e'⟩
      obtain ⟨d, hd, rd⟩ := rr.get' hv
      refine turn i d ρ' b' hd iv Z σ' Hf' H' v _ s' (RP.m _ e' rd) fun ρ2 σ2 x s2 => ?_
      exact x Z σ2 Hf' H' _ s2 (fun ρ3 b3 σ3 Hf3 H3 y s3 e3 => ⟨ρ3, b3, Hf3, y, s3, e'.trans e3⟩) fun p b3 ρ3 u σ3 Hf3 H3 y s3 e3 ru => r p b3 ρ3 u σ3 Hf3 H3 y s3 ((e1.trans e').trans e3) ru
    · rintro σ' H' ⟨ρ', b', Hf', iv, s', e'⟩
      rw [← hl] at iv
      exact n ρ' b' σ' Hf' H' (fin ρ' b' iv) s' (e1.trans e')
theorem s_forR1 {t : TA} (Iv : Nat → List Slot → Int → Prop) (h : GA e t ρ b fun ps b1 => ∃ n : Int, ps = [I n] ∧ (-(2 ^ 62) ≤ n ∧ n < 2 ^ 62) ∧ Iv 0 ρ b1 ∧ (∀ (i : Nat) ρ' b', i < n.toNat → Iv i ρ' b' → At e g (I (0 + (i : Int))) ρ' b' fun ρ2 b2 => S e tb' ρ2 b2 (Iv (i + 1)) R) ∧ ∀ ρ' b', Iv n.toNat ρ' b' → N ρ' b') :
    S e (tFor (iRng1 t) g tb') ρ b N R := fun Z σ Hf H D s n r =>
  h Z σ Hf H _ s fun ps b1 vs Hf1 H1 ⟨m, hp, hb, i0, turn, fin⟩ s1 e1 r1 => by
    subst hp
    cases r1 with
    | cons r1 r2 =>
      cases r2
      cases (show _ = V.int m from r1)
      refine ⟨m, rfl, hb.1, hb.2, for_range (n := m.toNat) (fun i σ' H' => ∃ ρ' b' Hf', Iv i ρ' b' ∧ StOk e Z ρ' b' σ' Hf' H' ∧ Same Hf1 Hf') ⟨ρ, b1, Hf1, i0, s1, .refl _⟩ ?_ ?_⟩
      · rintro i σ' H' hi ⟨ρ', b', Hf', iv, s', e'⟩
        refine turn i ρ' b' hi iv Z σ' Hf' H' _ _ s' rfl fun ρ2 σ2 x s2 => ?_
        exact x Z σ2 Hf' H' _ s2 (fun ρ3 b3 σ3 Hf3 H3 y s3 e3 => ⟨ρ3, b3, Hf3, y, s3, e'.trans e3⟩) fun p b3 ρ3 u σ3 Hf3 H3 y s3 e3 ru => r p b3 ρ3 u σ3 Hf3 H3 y s3 ((e1.trans e').trans e3) ru
      · rintro σ' H' ⟨ρ', b', Hf', iv, s', e'⟩
        exact n ρ' b' σ' Hf' H' (fin ρ' b' iv) s' (e1.trans e')
theorem s_forR2 {t : TA} (Iv : Nat → List Slot → Int → Prop) (h : GA e t ρ b fun ps b1 => ∃ m n : Int, ps = [I m, I n] ∧ (-(2 ^ 62) ≤ m ∧ m < 2 ^ 62 ∧ -(2 ^ 62) ≤ n ∧ n < 2 ^ 62) ∧ Iv 0 ρ b1 ∧ (∀ (i : Nat) ρ' b', i < (n - m).toNat → Iv i ρ' b' → At e g (I (m + (i : Int))) ρ' b' fun ρ2 b2 => S e tb' ρ2 b2 (Iv (i + 1)) R) ∧ ∀ ρ' b', Iv (n - m).toNat ρ' b' → N ρ' b') :
    S e (tFor (iRng2 t) g tb') ρ b N R := fun Z σ Hf H D s n r =>
  h Z σ Hf H _ s fun ps b1 vs Hf1 H1 ⟨l, m, hp, hb, i0, turn, fin⟩ s1 e1 r1 => by
    subst hp
    cases r1 with
    | cons r0 r1 =>
    cases r1 with
    | cons r1 r2 =>
      cases r2
      cases (show _ = V.int l from r0)
      cases (show _ = V.int m from r1)
      refine ⟨l, m, rfl, hb, for_range (n := (m - l).toNat) (fun i σ' H' => ∃ ρ' b' Hf', Iv i ρ' b' ∧ StOk e Z ρ' b' σ' Hf' H' ∧ Same Hf1 Hf') ⟨ρ, b1, Hf1, i0, s1, .refl _⟩ ?_ ?_⟩
      · rintro i σ' H' hi ⟨ρ', b', Hf', iv, s', e'⟩
        refine turn i ρ' b' hi iv Z σ' Hf' H' _ _ s' rfl fun ρ2 σ2 x s2 => ?_
        exact x Z σ2 Hf' H' _ s2 (fun ρ3 b3 σ3 Hf3 H3 y s3 e3 => ⟨ρ3, b3, Hf3, y, s3, e'.trans e3⟩) fun p b3 ρ3 u σ3 Hf3 H3 y s3 e3 ru => r p b3 ρ3 u σ3 Hf3 H3 y s3 ((e1.trans e').trans e3) ru
      · rintro σ' H' ⟨ρ', b', Hf', iv, s', e'⟩
        exact n ρ' b' σ' Hf' H' (fin ρ' b' iv) s' (e1.trans e')
end

/-! ### comprehensions -/
def ro : List Slot → List Slot := List.map fun s => match s with | .own _ => .no | s => s
def wipeR (ρ : List Slot) : List Nat → List Slot
  | [] => ρ
  | v :: vs => (wipeR ρ vs).set v .no
theorem wipe_set (σ : L2.St) (i : Nat) (x y : Option V) : ∀ vs : List Nat, (wipe (σ.set i x) vs).set i y = (wipe σ vs).set i y
  | [] => by show (σ.set i x).set i y = σ.set i y; rw [List.set_set]
  | v :: vs => by
    have ih := wipe_set σ i x y vs
    show ((wipe (σ.set i x) vs).set v none).set i y = ((wipe σ vs).set v none).set i y
    by_cases e : v = i
    · subst e
      rw [List.set_set, List.set_set]
      exact ih
    · rw [List.set_comm _ _ e, List.set_comm _ _ e, ih]
theorem wipe_in (σ : L2.St) (i : Nat) (x : Option V) : ∀ vs : List Nat, i ∈ vs → wipe (σ.set i x) vs = wipe σ vs
  | [], h => by cases h
  | v :: vs, h => by
    show (wipe (σ.set i x) vs).set v none = (wipe σ vs).set v none
    by_cases e : v = i
    · subst e
      exact wipe_set σ v x none vs
    · rw [wipe_in σ i x vs (by rcases List.mem_cons.mp h with z | z; exact absurd z.symm e; exact z)]
theorem wipe_wipe (σ : L2.St) : ∀ vs : List Nat, wipe (wipe σ vs) vs = wipe σ vs := by
  have one : ∀ (vs : List Nat) (τ : L2.St), (∀ v ∈ vs, ∀ o, τ[v]? = some o → o = none) → wipe τ vs = τ := by
    intro vs
    induction vs with
    | nil => intro τ _; rfl
    | cons v vs ih =>
      intro τ h
      show (wipe τ vs).set v none = τ
      rw [ih τ fun u hu o ho => h u (List.mem_cons_of_mem _ hu) o ho]
      apply List.ext_getElem?
      intro j
      by_cases c : v = j
      · subst c
        cases g : τ[v]? with
        | none => rw [List.getElem?_eq_none_iff] at g ⊢; rw [List.length_set]; exact g
        | some o =>
          have := h v List.mem_cons_self o g
          subst this
          rw [List.getElem?_set_self (List.getElem?_eq_some_iff.mp g).1]
      · rw [List.getElem?_set_ne c]
  intro vs
  refine one vs _ ?_
  have none' : ∀ (vs : List Nat) (v : Nat), v ∈ vs → ∀ o, (wipe σ vs)[v]? = some o → o = none := by
    intro vs
    induction vs with
    | nil => intro v h; cases h
    | cons u vs ih =>
      intro v h o g
      have g : ((wipe σ vs).set u none)[v]? = some o := g
      rcases set_get g with ⟨_, z⟩ | ⟨n, g⟩
      · exact z
      · rcases List.mem_cons.mp h with z | z
        · exact absurd z n
        · exact ih v z o g
  exact none' vs
theorem StOk.inner {e : Ev} {Z : Zn} {ρ : List Slot} {b : Int} {σ : L2.St} {Hf H : Hp} (s : StOk e Z ρ b σ Hf H) (vs : List Nat) : StOk e ⟨H, Hf⟩ (wipeR (ro ρ) vs) b (wipe σ vs) Hf H := by
  have sl0 : Paired (SlotOk e Hf H) (ro ρ) σ := by
    have go : ∀ {l : List Slot} {m : L2.St}, Paired (SlotOk e Hf H) l m → Paired (SlotOk e Hf H) (ro l) m := by
      intro l m p
      induction p with
      | nil => exact .nil
      | @cons x y l m h t ih =>
        refine .cons ?_ ih
        cases x with
        | own ps => trivial
        | no => exact h
        | val p => exact h
        | pen => exact h
    exact go s.sl
  have sl : ∀ vs : List Nat, Paired (SlotOk e Hf H) (wipeR (ro ρ) vs) (wipe σ vs) := by
    intro vs
    induction vs with
    | nil => exact sl0
    | cons v vs ih => exact RL.Paired.set (show SlotOk e Hf H .no none from trivial) v ih
  have nown : ∀ (vs : List Nat) (i : Nat) (ps : List RP), (wipeR (ro ρ) vs)[i]? ≠ some (Slot.own ps) := by
    intro vs
    induction vs with
    | nil =>
      intro i ps h
      have h : (ro ρ)[i]? = some (Slot.own ps) := h
      unfold ro at h
      rw [List.getElem?_map] at h
      cases g : ρ[i]? with
      | none => rw [g] at h; cases h
      | some x =>
        rw [g] at h
        cases x <;> cases h
    | cons v vs ih =>
      intro i ps h
      have h : ((wipeR (ro ρ) vs).set v .no)[i]? = some (Slot.own ps) := h
      rcases set_get h with ⟨_, z⟩ | ⟨_, h⟩
      · cases z
      · exact ih i ps h
  refine ⟨s.sf, Fr.refl, .refl _, fun _ _ _ _ n => n, s.pn, sl vs, fun i j a ps qs _ h => (nown vs i ps h).elim, fun i a ps h => (nown vs i ps h).elim, ?_⟩
  intro C d fs us b' Hf' H' hX hF hP hS h0 hN hd hfs hn
  refine s.ex C d fs us b' Hf' H' hX (s.fr.trans hF) hP hS (s.f0.trans h0) (fun a o h m n => ?_) hd hfs ?_
  · obtain ⟨o', h', m'⟩ := s.oldM h m
    exact hN a o' h' m' (s.nw a o h m n)
  · cases g : Z.H0 d with
    | none => rfl
    | some o =>
      obtain ⟨o', h'⟩ := s.old g
      have hn : H d = none := hn
      rw [hn] at h'
      cases h'
/-- back from within -/
theorem StOk.outer {e : Ev} {Z : Zn} {ρ ρ' : List Slot} {b b' : Int} {σ σ' : L2.St} {Hf H Hf' H' : Hp} (s : StOk e Z ρ b σ Hf H) (t : StOk e ⟨H, Hf⟩ ρ' b' σ' Hf' H') : StOk e Z ρ b' σ Hf' H' := by
  refine ⟨t.sf, s.fr.trans t.fr, s.f0.trans t.f0, fun a o h m n => ?_, t.pn, Paired.mono (fun sl o h => ?_) s.sl, s.ap, s.on, s.ex⟩
  · obtain ⟨o', h', m'⟩ := s.oldM h m
    exact t.nw a o' h' m' (s.nw a o h m n)
  · cases sl with
    | no => trivial
    | val p => obtain ⟨v, e, r⟩ := h; exact ⟨v, e, RP.m _ t.f0 r⟩
    | own ps =>
      obtain ⟨a, vs, e, n, h, r, q⟩ := h
      exact ⟨a, vs, e, t.nw _ _ h trivial n, t.fr _ _ h fun x hx => (q x hx).1, r.same t.f0, q⟩
    | pen => exact h
/-- a target within: only own slots -/
def Aw (e : Ev) (ws : List Nat) (g : TG) (p : RP) (ρ : List Slot) (b : Int) (N : List Slot → Int → Prop) : Prop :=
  ∀ (Z : Zn) (σ : L2.St) (Hf H : Hp) (v : V) (Q : L2.St → Hp → Prop), StOk e Z ρ b σ Hf H → p.r Hf v → (∀ ρ' σ', N ρ' b → StOk e Z ρ' b σ' Hf H → wipe σ' ws = wipe σ ws → Q σ' H) → g v σ H Q
def Aws (e : Ev) (ws : List Nat) (g : TGs) (ps : List RP) (ρ : List Slot) (b : Int) (N : List Slot → Int → Prop) : Prop :=
  ∀ (Z : Zn) (σ : L2.St) (Hf H : Hp) (vs : List V) (Q : L2.St → Hp → Prop), StOk e Z ρ b σ Hf H → Rps Hf ps vs → (∀ ρ' σ', N ρ' b → StOk e Z ρ' b σ' Hf H → wipe σ' ws = wipe σ ws → Q σ' H) → g vs σ H Q
section
variable {e : Ev} {ρ : List Slot} {b : Int} {k : RP → Int → Prop} {kl : List RP → Int → Prop} {ta tb te : TE} {i : Nat} {p q : RP} {ws : List Nat} {N : List Slot → Int → Prop}
theorem w_name (hi : i ∈ ws) (h : N (ρ.set i (.val p)) b) : Aw e ws (gName i) p ρ b N := fun Z σ Hf H v Q s r c => c _ _ h (s.put i r) (wipe_in σ i _ ws hi)
theorem w_nil (h : N ρ b) : Aws e ws gNil [] ρ b N := fun Z σ Hf H vs Q s r c => by cases r; exact ⟨rfl, c _ _ h s rfl⟩
theorem w_cons {g : TG} {gs : TGs} {ps : List RP} (h : Aw e ws g p ρ b fun ρ1 b1 => Aws e ws gs ps ρ1 b1 N) : Aws e ws (gCons g gs) (p :: ps) ρ b N := fun Z σ Hf H vs Q s r c => by
  cases r with
  | cons r1 r2 => exact ⟨_, _, rfl, h Z σ Hf H _ _ s r1 fun ρ1 σ1 x s1 z => x Z σ1 Hf H _ _ s1 r2 fun ρ2 σ2 y s2 z2 => c ρ2 σ2 y s2 (z2.trans z)⟩
theorem w_tup {K : PySem.W.Frag} {n : Nat} {gs : TGs} {ps : List RP} (hn : ps.length = n) (h : Aws e ws gs ps ρ b N) : Aw e ws (gTup K n gs) (tR ps) ρ b N := fun Z σ Hf H v Q s r c => by
  obtain ⟨a, vs, rfl, ha, rr⟩ := r
  exact ⟨a, vs, rfl, SqT.of (s.sf _ _ ha), by rw [← Paired.length rr]; exact hn, h Z σ Hf H vs Q s rr c⟩
theorem t_yes {k : Bool → Int → Prop} (h : k true b) : T e tYes ρ b k := fun Z σ Hf H Q s q => q true b Hf H h s (.refl _)
/-- the turn of a comprehension -/
def LcTurn (e : Ev) (ws : List Nat) (g : TG) (tt : TT) (te : TE) (ρ : List Slot) (Iv : Nat → List RP → Int → Prop) (i : Nat) (d : RP) (acc : List RP) (b' : Int) : Prop :=
  Aw e ws g d (wipeR (ro ρ) ws) b' fun ρ2 b2 => T e tt ρ2 b2 fun c b3 => (c = true → G e te ρ2 b3 fun q b4 => acc.length < 1000000 ∧ Iv (i + 1) (acc ++ [q]) b4) ∧ (c = false → Iv (i + 1) acc b3)
/-- what holds between turns: the accumulator D, unfrozen -/
def LcInv (e : Ev) (Z : Zn) (ρ : List Slot) (σ : L2.St) (Hf1 : Hp) (D : Addr) (Iv : Nat → List RP → Int → Prop) (i : Nat) (H : Hp) : Prop :=
  ∃ acc b' Hf' as, Iv i acc b' ∧ StOk e Z ρ b' σ Hf' H ∧ Same Hf1 Hf' ∧ Hf' D = none ∧ H D = some (.lst as) ∧ Rps Hf' acc as ∧ Z.H0 D = none ∧ ∀ x, e.pen = some x → D ≠ x.1 ∧ D ≠ x.2.1
theorem lc_step {Z : Zn} {σ : L2.St} {Hf1 H : Hp} {D : Addr} {Iv : Nat → List RP → Int → Prop} {g : TG} {tt : TT} {v : V} {d : RP} (I0 : LcInv e Z ρ σ Hf1 D Iv i H) (hnown : ∀ (j : Nat) (ps : List RP), ρ[j]? = some (Slot.own ps) → σ[j]? ≠ some (some (V.ref D)))
    (rd : d.r Hf1 v) (turn : ∀ acc b', Iv i acc b' → LcTurn e ws g tt te ρ Iv i d acc b') : g v (wipe σ ws) H fun σ2 H2 => wipe σ2 ws = wipe σ ws ∧ tt σ2 H2 fun b H3 =>
      if b = true then te σ2 H3 fun y H4 => ∃ acc, H4 D = some (.lst acc) ∧ acc.length < sizeLine ∧ LcInv e Z ρ σ Hf1 D Iv (i + 1) (L2.upd H4 D (.lst (acc ++ [y]))) else LcInv e Z ρ σ Hf1 D Iv (i + 1) H3 := by
  obtain ⟨acc, b', Hf', as, iv, s', e', nD, hD, ra, zD, pD⟩ := I0
  refine turn acc b' iv ⟨H, Hf'⟩ (wipe σ ws) Hf' H v _ (s'.inner ws) (RP.m _ e' rd) fun ρ2 σ2 x s2 hw => ⟨by rw [hw, wipe_wipe], ?_⟩
  refine x ⟨H, Hf'⟩ σ2 Hf' H _ s2 fun c b3 Hf3 H3 ⟨y1, y2⟩ s3 e3 => ?_
  have D3 : H3 D = some (.lst as) := s3.fr _ _ hD fun x hx => (pD x hx).1
  have n3 : Hf3 D = none := s3.nw _ _ hD trivial nD
  cases c with
  | false => exact ⟨acc, b3, Hf3, as, y2 rfl, s'.outer s3, e'.trans e3, n3, D3, ra.same e3, zD, pD⟩
  | true =>
    show te σ2 H3 _
    refine y1 rfl ⟨H, Hf'⟩ σ2 Hf3 H3 _ s3 fun q b4 u Hf4 H4 ⟨hl, y⟩ s4 e4 ru => ?_
    have D4 : H4 D = some (.lst as) := s4.fr _ _ hD fun x hx => (pD x hx).1
    have n4 : Hf4 D = none := s4.nw _ _ hD trivial nD
    have la := Paired.length ra
    refine ⟨as, D4, by have := sizeLine_eq; omega, acc ++ [q], b4, Hf4, as ++ [u], y, ?_, (e'.trans e3).trans e4, n4, upd_same, (ra.same (e3.trans e4)).append (.cons ru .nil), zD, pD⟩
    have so := s'.outer s4
    refine ⟨fun c o z => by rw [upd_ne (ne_of_none z n4)]; exact so.sf _ _ z, fun c o z zn => by rw [upd_ne (ne_of_none z zD)]; exact so.fr c o z zn, so.f0, so.nw, fun x hx => ⟨(so.pn x hx).1.upd (pD x hx).1 (pD x hx).2, (so.pn x hx).2⟩, ?_, so.ap, so.on, so.ex⟩
    refine RL.Paired.ix (Paired.length so.sl) fun j x y hx hy => ?_
    obtain ⟨y', hy', gg⟩ := RL.Paired.get so.sl hx
    rw [hy] at hy'
    cases hy'
    cases x with
    | no => trivial
    | val p => exact gg
    | own qs =>
      obtain ⟨c, us, z1, z2, z3, z4, z5⟩ := gg
      subst z1
      exact ⟨c, us, rfl, z2, by rw [upd_ne fun z => hnown j qs hx (by rw [hy, z])]; exact z3, z4, z5⟩
    | pen => exact gg
theorem lc_start {Z : Zn} {σ : L2.St} {Hf1 H1 : Hp} {D : Addr} {Iv : Nat → List RP → Int → Prop} (s1 : StOk e Z ρ b σ Hf1 H1) (nD : H1 D = none) (i0 : Iv 0 [] b) : LcInv e Z ρ σ Hf1 D Iv 0 (L2.upd H1 D (.lst [])) :=
  ⟨[], b, Hf1, [], i0, s1.move (Ex.newU s1.sf nD), .refl _, s1.sf.free nD, upd_same, .nil, (by
    cases g : Z.H0 D with
    | none => rfl
    | some o =>
      obtain ⟨o', h'⟩ := s1.old g
      rw [nD] at h'
      cases h'), fun x hx => by
    obtain ⟨h1, _⟩ := s1.pn x hx
    obtain ⟨o, ho⟩ := h1.at_
    obtain ⟨o', ho'⟩ := h1.atl
    exact ⟨(ne_of_none ho nD).symm, (ne_of_none ho' nD).symm⟩⟩
theorem lc_own {Z : Zn} {σ : L2.St} {Hf1 H1 : Hp} {D : Addr} (s1 : StOk e Z ρ b σ Hf1 H1) (nD : H1 D = none) : ∀ (j : Nat) (ps : List RP), ρ[j]? = some (Slot.own ps) → σ[j]? ≠ some (some (V.ref D)) := fun j ps hj z => by
  obtain ⟨a, ws, h1, _, h3, _⟩ := s1.own hj
  rw [z] at h1
  cases h1
  rw [h3] at nD
  cases nD
/-- a value of a new list -/
theorem g_n (h : GN e te ρ b fun ps b1 => k (lR ps) b1) : G e te ρ b k := fun Z σ Hf H Q s c =>
  h Z σ Hf H Q s fun ps b' q vs Hf1 H1 Hf' H' kp s1 e1 x n1 n2 hq rr => by
    have ff : Same Hf' (L2.upd Hf' q (.lst vs)) := .new1 n2
    have y : Ex Hf1 H1 (L2.upd Hf' q (.lst vs)) H' := ⟨x.ff.trans ff, fun a o z => by
      by_cases c : a = q
      · subst c; rw [upd_same] at z; rw [hq]; exact z
      · rw [upd_ne c] at z; exact x.fh _ _ z, x.hh, fun a o h l m => by rw [upd_ne (ne_of_none h n1)]; exact x.nw a o h l m⟩
    exact c _ b' _ _ H' kp (s1.move y) (e1.trans y.ff) ⟨q, vs, rfl, upd_same, rr.same ff⟩
/-- a new list at the end of the comprehension -/
theorem lc_end {Z : Zn} {σ : L2.St} {Hf Hf1 H1 H' : Hp} {D : Addr} {Iv : Nat → List RP → Int → Prop} {n : Nat} {Q : VK} (I0 : LcInv e Z ρ σ Hf1 D Iv n H') (e1 : Same Hf Hf1) (s1 : StOk e Z ρ b σ Hf1 H1) (nD : H1 D = none) (fin : ∀ acc b', Iv n acc b' → kl acc b')
    (c : ∀ ps b' q vs Hf1 H1 Hf' H', kl ps b' → StOk e Z ρ b' σ Hf1 H1 → Same Hf Hf1 → Ex Hf1 H1 Hf' H' → H1 q = none → Hf' q = none → H' q = some (.lst vs) → Rps Hf' ps vs → Q (.ref q) H') : Q (.ref D) H' := by
  obtain ⟨acc, b', Hf', as, iv, s', e', n', hD, ra, zD, pD⟩ := I0
  -- the heap without D
  have sf : Same Hf' (fun a => if a = D then none else H' a) := fun a o z => by
    show (if a = D then none else H' a) = some o
    rw [if_neg (ne_of_none z n')]
    exact s'.sf _ _ z
  have s2 : StOk e Z ρ b' σ Hf' (fun a => if a = D then none else H' a) := by
    refine ⟨sf, fun a o z zn => ?_, s'.f0, s'.nw, fun x hx => ?_, ?_, s'.ap, s'.on, s'.ex⟩
    · show (if a = D then none else H' a) = some o
      rw [if_neg (ne_of_none z zD)]
      exact s'.fr a o z zn
    · obtain ⟨⟨sp, lf, h1, h2, hr⟩, h3⟩ := s'.pn x hx
      exact ⟨⟨sp, lf, (show (if x.1 = D then none else H' x.1) = _ by rw [if_neg (Ne.symm (pD x hx).1)]; exact h1), (show (if x.2.1 = D then none else H' x.2.1) = _ by rw [if_neg (Ne.symm (pD x hx).2)]; exact h2), hr⟩, h3⟩
    · refine RL.Paired.ix (Paired.length s'.sl) fun j x y hx hy => ?_
      obtain ⟨y', hy', gg⟩ := RL.Paired.get s'.sl hx
      rw [hy] at hy'
      cases hy'
      cases x with
      | no => trivial
      | val p => exact gg
      | own qs =>
        obtain ⟨c, us, z1, z2, z3, z4, z5⟩ := gg
        subst z1
        refine ⟨c, us, rfl, z2, ?_, z4, z5⟩
        show (if c = D then none else H' c) = _
        rw [if_neg fun z => lc_own s1 nD j qs hx (by rw [hy, z])]
        exact z3
      | pen => exact gg
  refine c acc b' D as Hf' _ Hf' H' (fin acc b' iv) s2 (e1.trans e') ⟨.refl _, s'.sf, fun a o z => ?_, fun _ _ _ _ m => m⟩ (if_pos rfl) n' hD ra
  have z : (if a = D then none else H' a) = some o := z
  split at z
  · cases z
  · exact z
theorem gn_lcL {K : PySem.W.Frag} {g : TG} {tt : TT} (Iv : Nat → List RP → Int → Prop) (h : G e ta ρ b fun p b1 => ∃ ds, p = lR ds ∧ Iv 0 [] b1 ∧ (∀ i d acc b', ds[i]? = some d → Iv i acc b' → LcTurn e ws g tt te ρ Iv i d acc b') ∧ ∀ acc b', Iv ds.length acc b' → kl acc b') :
    GN e (tLc (iList K ta) g tt te ws) ρ b kl := fun Z σ Hf H Q s c =>
  h Z σ Hf H _ s fun p b1 v Hf1 H1 ⟨ds, hp, i0, turn, fin⟩ s1 e1 r1 => by
    subst hp
    obtain ⟨a, vs, rfl, ha, rr⟩ := r1
    have hl := Paired.length rr
    refine ⟨a, rfl, ⟨vs, SqL.of (s1.sf _ _ ha)⟩, fun D nD => ?_⟩
    refine lc_list (a := a) (xs := vs) (fun i H' => LcInv e Z ρ σ Hf1 D Iv i H') (lc_start s1 nD i0) (fun i H' _ ⟨acc, b', Hf', as, _, s', e', _⟩ => SqL.of (s'.sf _ _ (e' _ _ ha))) ?_ ?_
    · intro i v H' hv iv
      obtain ⟨d, hd, rd⟩ := rr.get' hv
      exact lc_step iv (lc_own s1 nD) rd fun acc b' z => turn i d acc b' hd z
    · intro H' iv
      rw [← hl] at iv
      exact lc_end iv e1 s1 nD fin c
theorem gn_lcT {K : PySem.W.Frag} {g : TG} {tt : TT} (Iv : Nat → List RP → Int → Prop) (h : G e ta ρ b fun p b1 => ∃ ds, p = tR ds ∧ Iv 0 [] b1 ∧ (∀ i d acc b', ds[i]? = some d → Iv i acc b' → LcTurn e ws g tt te ρ Iv i d acc b') ∧ ∀ acc b', Iv ds.length acc b' → kl acc b') :
    GN e (tLc (iTup K ta) g tt te ws) ρ b kl := fun Z σ Hf H Q s c =>
  h Z σ Hf H _ s fun p b1 v Hf1 H1 ⟨ds, hp, i0, turn, fin⟩ s1 e1 r1 => by
    subst hp
    obtain ⟨a, vs, rfl, ha, rr⟩ := r1
    have hl := Paired.length rr
    refine ⟨a, rfl, ⟨vs, SqT.of (s1.sf _ _ ha)⟩, fun D nD => ?_⟩
    refine lc_tup (a := a) (xs := vs) (fun i H' => LcInv e Z ρ σ Hf1 D Iv i H') (lc_start s1 nD i0) (fun i H' _ ⟨acc, b', Hf', as, _, s', e', _⟩ => SqT.of (s'.sf _ _ (e' _ _ ha))) ?_ ?_
    · intro i v H' hv iv
      obtain ⟨d, hd, rd⟩ := rr.get' hv
      exact lc_step iv (lc_own s1 nD) rd fun acc b' z => turn i d acc b' hd z
    · intro H' iv
      rw [← hl] at iv
      exact lc_end iv e1 s1 nD fin c
theorem gn_lcR1 {t : TA} {g : TG} {tt : TT} (Iv : Nat → List RP → Int → Prop) (h : GA e t ρ b fun ps b1 => ∃ n : Int, ps = [I n] ∧ (-(2 ^ 62) ≤ n ∧ n < 2 ^ 62) ∧ Iv 0 [] b1 ∧ (∀ (i : Nat) acc b', i < n.toNat → Iv i acc b' → LcTurn e ws g tt te ρ Iv i (I (0 + (i : Int))) acc b') ∧ ∀ acc b', Iv n.toNat acc b' → kl acc b') :
    GN e (tLc (iRng1 t) g tt te ws) ρ b kl := fun Z σ Hf H Q s c =>
  h Z σ Hf H _ s fun ps b1 vs Hf1 H1 ⟨m, hp, hb, i0, turn, fin⟩ s1 e1 r1 => by
    subst hp
    cases r1 with
    | cons r1 r2 =>
      cases r2
      cases (show _ = V.int m from r1)
      refine ⟨m, rfl, hb.1, hb.2, fun D nD => ?_⟩
      refine lc_range (n := m.toNat) (fun i H' => LcInv e Z ρ σ Hf1 D Iv i H') (lc_start s1 nD i0) ?_ fun H' iv => lc_end iv e1 s1 nD fin c
      intro i H' hi iv
      exact lc_step (d := I (0 + (i : Int))) iv (lc_own s1 nD) rfl fun acc b' z => turn i acc b' hi z
theorem gn_lcR2 {t : TA} {g : TG} {tt : TT} (Iv : Nat → List RP → Int → Prop) (h : GA e t ρ b fun ps b1 => ∃ m n : Int, ps = [I m, I n] ∧ (-(2 ^ 62) ≤ m ∧ m < 2 ^ 62 ∧ -(2 ^ 62) ≤ n ∧ n < 2 ^ 62) ∧ Iv 0 [] b1 ∧ (∀ (i : Nat) acc b', i < (n - m).toNat → Iv i acc b' → LcTurn e ws g tt te ρ Iv i (I (m + (i : Int))) acc b') ∧ ∀ acc b', Iv (n - m).toNat acc b' → kl acc b') :
    GN e (tLc (iRng2 t) g tt te ws) ρ b kl := fun Z σ Hf H Q s c =>
  h Z σ Hf H _ s fun ps b1 vs Hf1 H1 ⟨l, m, hp, hb, i0, turn, fin⟩ s1 e1 r1 => by
    subst hp
    cases r1 with
    | cons r0 r1 =>
    cases r1 with
    | cons r1 r2 =>
      cases r2
      cases (show _ = V.int l from r0)
      cases (show _ = V.int m from r1)
      refine ⟨l, m, rfl, hb, fun D nD => ?_⟩
      refine lc_range (n := (m - l).toNat) (fun i H' => LcInv e Z ρ σ Hf1 D Iv i H') (lc_start s1 nD i0) ?_ fun H' iv => lc_end iv e1 s1 nD fin c
      intro i H' hi iv
      exact lc_step (d := I (l + (i : Int))) iv (lc_own s1 nD) rfl fun acc b' z => turn i acc b' hi z
end

/-! ### older promises, by forms -/
/-- all of H' but what may still grow -/
noncomputable def froz (Hf H H' : Hp) : Hp := open Classical in fun a => if (∃ o, H a = some o ∧ Mb o) ∧ Hf a = none then none else H' a
theorem froz_ex {Hf H H' : Hp} (s : Same Hf H) (t : Same H H') : Ex Hf H (froz Hf H H') H' := by
  classical
  refine ⟨fun a o h => ?_, fun a o h => ?_, t, fun a o h m n => ?_⟩
  · unfold froz
    rw [if_neg fun z => by rw [h] at z; cases z.2]
    exact t _ _ (s _ _ h)
  · unfold froz at h
    split at h
    · cases h
    · exact h
  · unfold froz
    rw [if_pos ⟨⟨o, h, m⟩, n⟩]
theorem froz_but {p : Addr} {Hf H H' : Hp} (s : Same Hf H) (t : But p H H') (hp : Hf p = none) (hm : ∃ xs, H p = some (.lst xs)) : Same Hf (froz Hf H H') ∧ Same (froz Hf H H') H' ∧ ∀ a o, H a = some o → Mb o → Hf a = none → froz Hf H H' a = none := by
  classical
  refine ⟨fun a o h => ?_, fun a o h => ?_, fun a o h m n => ?_⟩
  · unfold froz
    rw [if_neg fun z => by rw [h] at z; cases z.2]
    exact t _ _ (s _ _ h) (ne_of_none h hp)
  · unfold froz at h
    split at h
    · cases h
    · exact h
  · unfold froz
    rw [if_pos ⟨⟨o, h, m⟩, n⟩]
/-- what is read in the frozen part of H' -/
theorem froz_at {Hf H H' : Hp} {a : Addr} {o : HO} (h : H' a = some o) (n : ¬ Mb o ∨ H a = none) (t : ∀ a o u, H a = some o → Mb o → H' a = some u → Mb u) : froz Hf H H' a = some o := by
  classical
  unfold froz
  rw [if_neg fun z => ?_]
  · exact h
  · obtain ⟨⟨o', h', m'⟩, _⟩ := z
    rcases n with n | n
    · exact n (t _ _ _ h' m' h)
    · rw [n] at h'
      cases h'
theorem same_mb {H H' : Hp} (t : Same H H') : ∀ a o u, H a = some o → Mb o → H' a = some u → Mb u := fun a o u h m h' => by rw [t _ _ h] at h'; cases h'; exact m
/-- the very heap: the answer leaves the heap as it is -/
theorem Ex.here {Hf H : Hp} (s : Same Hf H) : Ex Hf H Hf H := .refl s

/-! ### the pen's defs by forms -/
def spPen (K : PySem.W.Frag) : Sp := fun vs H Q _ => ∃ (a : Addr) (ns : List Int), vs = [.ref a] ∧ SqL K H a (ns.map V.int) ∧ ns.length ≤ 63 ∧
  ∀ p l ms H', H p = none → Same H H' → Pn p l ms 0 H' → Q (.ref p) H'
def spDraw : Sp := fun vs H Q _ => ∃ p l ns b many, vs = [.ref p, .int many] ∧ Pn p l ns b H ∧ b ≤ 1000000 ∧ (0 < many ∧ many ≤ 10 ^ 60) ∧
  ∀ n H', 0 ≤ n ∧ n < many → Pn p l ns (b + 1) H' → But p H H' → Q (.int n) H'
def spPick (K : PySem.W.Frag) : Sp := fun vs H Q _ => ∃ p l ns b q xs, vs = [.ref p, .ref q] ∧ Pn p l ns b H ∧ b ≤ 1000000 ∧ SqL K H q xs ∧ q ≠ p ∧ (0 < xs.length ∧ xs.length ≤ 1000) ∧
  ∀ v H', v ∈ xs → Pn p l ns (b + 1) H' → But p H H' → Q v H'
def preDraw : List RP → Int → (RP → Int → Prop) → Prop := fun ps b k => ∃ many, ps = [I many] ∧ b ≤ 1000000 ∧ (0 < many ∧ many ≤ 10 ^ 60) ∧ ∀ n : Int, 0 ≤ n → n < many → k (I n) (b + 1)
def prePick : List RP → Int → (RP → Int → Prop) → Prop := fun ps b k => ∃ xs, ps = [lR xs] ∧ b ≤ 1000000 ∧ (0 < xs.length ∧ xs.length ≤ 1000) ∧ ∀ p, p ∈ xs → k p (b + 1)
theorem wk_draw : WkP spDraw preDraw := fun vs H Q E h => by
  obtain ⟨x, b, vs', Hf, ps, k, rfl, hP, hn, s, r, ⟨many, hp, hb, hm, kk⟩, c⟩ := h
  subst hp
  cases r with
  | cons r1 r2 =>
    cases r2
    cases (show _ = V.int many from r1)
    refine ⟨x.1, x.2.1, x.2.2, b, many, rfl, hP, hb, hm, fun n H' hn' hP' hB => ?_⟩
    obtain ⟨sp, lf, h1, _⟩ := id hP
    obtain ⟨f1, f2, f3⟩ := froz_but s hB hn ⟨_, h1⟩
    exact c (I n) (.int n) (b + 1) _ H' (kk n hn'.1 hn'.2) f1 f2 hB hP' f3 rfl
theorem wk_pick {K : PySem.W.Frag} : WkP (spPick K) prePick := fun vs H Q E h => by
  obtain ⟨x, b, vs', Hf, ps, k, rfl, hP, hn, s, r, ⟨xs, hp, hb, hm, kk⟩, c⟩ := h
  subst hp
  cases r with
  | cons r1 r2 =>
    cases r2
    obtain ⟨a, vs, rfl, ha, rr⟩ := r1
    have hl := Paired.length rr
    refine ⟨x.1, x.2.1, x.2.2, b, a, vs, rfl, hP, hb, SqL.of (s _ _ ha), fun z => ?_, by omega, fun v H' hv hP' hB => ?_⟩
    · subst z
      rw [hn] at ha
      cases ha
    · obtain ⟨i, hi, ei⟩ := List.mem_iff_getElem.mp hv
      obtain ⟨p, hp, rp⟩ := rr.get' (i := i) (by rw [List.getElem?_eq_getElem hi, ei])
      obtain ⟨sp, lf, h1, _⟩ := id hP
      obtain ⟨f1, f2, f3⟩ := froz_but s hB hn ⟨_, h1⟩
      exact c p v (b + 1) _ H' (kk p (List.mem_of_getElem? hp)) f1 f2 hB hP' f3 (RP.m _ f1 rp)

/-! ### own classes -/
def IsC (p : RP) (C : Addr) : Prop := ∀ H v, p.r H v → ∃ a dx fs, v = .ref a ∧ H a = some (.ins C dx fs)
def KT (K : PySem.W.Frag) (C : Addr) (q : RP) : Prop := ∀ H v, q.r H v → ∃ t, TyX K H v t ∧ PySem.W.notFirst K C t = true
theorem IsI.isC {p : RP} {C : Addr} {m : Str} (h : IsI p C m) : IsC p C := fun H v r => let ⟨a, dx, fs, e, h, _⟩ := h H v r; ⟨a, dx, fs, e, h⟩
section
variable {e : Ev} {ρ : List Slot} {b : Int} {k : RP → Int → Prop} {ta tb te : TE} {i : Nat} {p q : RP} {sp : Sp} {pre : List RP → (RP → Prop) → Prop} {kk : RP → Prop} {C : Addr} {K : PySem.W.Frag} {t : TA}
theorem o2_item (w : WkF sp pre) (hp : IsC p C) (h : pre [p, q] kk) : O2 (rOwnItem C sp) p q kk := fun Hf H x y Q s r1 r2 c => by
  obtain ⟨a, dx, fs, rfl, ha⟩ := hp _ _ r1
  exact ⟨a, dx, fs, rfl, s _ _ ha, w _ _ _ _ ⟨Hf, [p, q], kk, s, .cons r1 (.cons r2 .nil), h, c⟩⟩
theorem o2_eqV (w : WkF sp pre) (hp : IsC p C) (hq : KT K C q) (h : pre [p, q] kk) : O2 (rOwnEqV K C sp) p q kk := fun Hf H x y Q s r1 r2 c => by
  obtain ⟨a, dx, fs, rfl, ha⟩ := hp _ _ r1
  obtain ⟨t, h1, h2⟩ := hq _ _ (RP.m _ s r2)
  exact ⟨a, dx, fs, t, rfl, s _ _ ha, h1, h2, w _ _ _ _ ⟨Hf, [p, q], kk, s, .cons r1 (.cons r2 .nil), h, c⟩⟩
theorem o2_neV (w : WkF sp pre) (hp : IsC p C) (hq : KT K C q) (h : pre [p, q] fun z => ∃ c, z = B c ∧ kk (B (!c))) : O2 (rOwnNeV K C sp) p q kk := fun Hf H x y Q s r1 r2 c => by
  obtain ⟨a, dx, fs, rfl, ha⟩ := hp _ _ r1
  obtain ⟨t, h1, h2⟩ := hq _ _ (RP.m _ s r2)
  exact ⟨a, dx, fs, t, rfl, s _ _ ha, h1, h2, w _ _ _ _ ⟨Hf, [p, q], _, s, .cons r1 (.cons r2 .nil), h, fun z v Hf' H' ⟨d, hz, y⟩ ex rv => by subst hz; exact ⟨d, rv, c _ _ Hf' H' y ex rfl⟩⟩⟩
theorem o2_eqO (w : WkF sp pre) (hp : IsC p C) (hq : IsC q C) (h : pre [p, q] kk) : O2 (rOwnEq C sp E0) p q kk := fun Hf H x y Q s r1 r2 c => by
  obtain ⟨a, dx, fs, rfl, ha⟩ := hp _ _ r1
  obtain ⟨a2, dx2, fs2, rfl, ha2⟩ := hq _ _ r2
  exact ⟨a, a2, dx, dx2, fs, fs2, rfl, rfl, s _ _ ha, s _ _ ha2, w _ _ _ _ ⟨Hf, [p, q], kk, s, .cons r1 (.cons r2 .nil), h, c⟩⟩
theorem o2_neO (w : WkF sp pre) (hp : IsC p C) (hq : IsC q C) (h : pre [p, q] fun z => ∃ c, z = B c ∧ kk (B (!c))) : O2 (rOwnNe C sp E0) p q kk := fun Hf H x y Q s r1 r2 c => by
  obtain ⟨a, dx, fs, rfl, ha⟩ := hp _ _ r1
  obtain ⟨a2, dx2, fs2, rfl, ha2⟩ := hq _ _ r2
  exact ⟨a, a2, dx, dx2, fs, fs2, rfl, rfl, s _ _ ha, s _ _ ha2, w _ _ _ _ ⟨Hf, [p, q], _, s, .cons r1 (.cons r2 .nil), h, fun z v Hf' H' ⟨d, hz, y⟩ ex rv => by subst hz; exact ⟨d, rv, c _ _ Hf' H' y ex rfl⟩⟩⟩
/-- i op o, o op i -/
theorem o2_ownR (w : WkF sp pre) {n : Int} (hq : IsC q C) (h : pre [q, I n] kk) : O2 (rOwnR C sp E0) (I n) q kk := fun Hf H x y Q s r1 r2 c => by
  obtain ⟨a2, dx2, fs2, rfl, ha2⟩ := hq _ _ r2
  cases (show x = V.int n from r1)
  exact ⟨n, a2, dx2, fs2, rfl, rfl, s _ _ ha2, w _ _ _ _ ⟨Hf, [q, I n], kk, s, .cons r2 (.cons rfl .nil), h, c⟩⟩
theorem o2_ownL (w : WkF sp pre) {n : Int} (hq : IsC q C) (h : pre [q, I n] kk) : O2 (rOwnL C sp E0) q (I n) kk := fun Hf H y x Q s r2 r1 c => by
  obtain ⟨a2, dx2, fs2, rfl, ha2⟩ := hq _ _ r2
  cases (show x = V.int n from r1)
  exact ⟨n, a2, dx2, fs2, rfl, rfl, s _ _ ha2, w _ _ _ _ ⟨Hf, [q, I n], kk, s, .cons r2 (.cons rfl .nil), h, c⟩⟩
theorem g_pro (w : WkF sp pre) (h : G e ta ρ b fun p b1 => IsC p C ∧ pre [p] fun z => k z b1) : G e (tProG C sp ta) ρ b k := fun Z σ Hf H Q s c =>
  h Z σ Hf H _ s fun p b1 v Hf1 H1 ⟨hp, x⟩ s1 e1 r1 => by
    obtain ⟨a, dx, fs, rfl, ha⟩ := hp _ _ r1
    exact ⟨a, dx, fs, rfl, s1.sf _ _ ha, w _ _ _ _ ⟨Hf1, [p], _, s1.sf, .cons r1 .nil, x, fun z v Hf' H' kz ex rv => c z b1 v Hf' H' kz (s1.move ex) (e1.trans ex.ff) rv⟩⟩
/-- keywords -/
theorem g_newK {n : Nat} {g : {α : Type} → List α → List α} (w : WkF sp pre) (hg : ∀ H (ps : List RP) (vs : List V), ps.length = n → Rps H ps vs → Rps H (g ps) (g vs)) (h : GA e t ρ b fun ps b1 => ps.length = n ∧ pre (g ps) fun p => k p b1) : G e (tNewK sp n g t) ρ b k := fun Z σ Hf H Q s c =>
  h Z σ Hf H _ s fun ps b1 vs Hf1 H1 ⟨hn, x⟩ s1 e1 r1 => ⟨by rw [← Paired.length r1]; exact hn, w _ _ _ _ ⟨Hf1, g ps, _, s1.sf, hg _ _ _ hn r1, x, fun p v Hf' H' kp ex rv => c p b1 v Hf' H' kp (s1.move ex) (e1.trans ex.ff) rv⟩⟩
theorem g_mk {m : Str} {n : Nat} {g : {α : Type} → List α → List α} (w : WkF sp pre) (hg : ∀ H (ps : List RP) (vs : List V), ps.length = n → Rps H ps vs → Rps H (g ps) (g vs)) (h : G e ta ρ b fun p b1 => IsI p C m ∧ GA e t ρ b1 fun ps b2 => ps.length = n ∧ pre (p :: g ps) fun q => k q b2) : G e (tMk C m n g sp ta t) ρ b k := fun Z σ Hf H Q s c =>
  h Z σ Hf H _ s fun p b1 v Hf1 H1 ⟨hi, x⟩ s1 e1 r1 => by
    obtain ⟨a, dx, fs, rfl, ha, hl⟩ := hi _ _ r1
    refine ⟨a, dx, fs, rfl, s1.sf _ _ ha, hl, x Z σ Hf1 H1 _ s1 fun ps b2 vs Hf2 H2 ⟨hn, y⟩ s2 e2 r2 => ⟨by rw [← Paired.length r2]; exact hn, ?_⟩⟩
    exact w _ _ _ _ ⟨Hf2, p :: g ps, _, s2.sf, .cons (RP.m _ e2 r1) (hg _ _ _ hn r2), y, fun q v Hf' H' kp ex rv => c q b2 v Hf' H' kp (s2.move ex) ((e1.trans e2).trans ex.ff) rv⟩
/-- walks of one's own: an __iter__ that gives the iterator of a tuple -/
def ItsO (K : PySem.W.Frag) (C : Addr) (sp : SpN) (p : RP) (ds : List RP) : Prop := ∀ Hf H v, Same Hf H → p.r Hf v → ∃ a dx fs t vs, v = .ref a ∧ H a = some (.ins C dx fs) ∧ Hf t = some (.tup vs) ∧ Rps Hf ds vs ∧
  ∀ (n' : Nat) (Q : VK), (∀ it, H it = none → n' ≤ it → Q (.ref it) (L2.upd H it (TiO t it))) → sp n' [.ref a] H Q E0
theorem drop_upd {H : Hp} {it : Addr} {o : HO} (h : H it = none) : ItX.dropH (L2.upd H it o) it = H := by
  funext b
  unfold ItX.dropH L2.upd
  by_cases c : b = it
  · subst c; simp [h]
  · simp [c]
variable {sn : SpN} {n : Nat} {ws : List Nat} {kl : List RP → Int → Prop} {N : List Slot → Int → Prop} {R : RP → Int → Prop} {tb' : TS} {g : TG}
theorem gn_lcO {g : TG} {tt : TT} (Iv : Nat → List RP → Int → Prop) (h : G e ta ρ b fun p b1 => ∃ ds, ItsO K C sn p ds ∧ Iv 0 [] b1 ∧ (∀ i d acc b', ds[i]? = some d → Iv i acc b' → LcTurn e ws g tt te ρ Iv i d acc b') ∧ ∀ acc b', Iv ds.length acc b' → kl acc b') :
    GN e (tLc (iOwn C sn K n ta) g tt te ws) ρ b kl := fun Z σ Hf H Q s c =>
  h Z σ Hf H _ s fun p b1 v Hf1 H1 ⟨ds, hp, i0, turn, fin⟩ s1 e1 r1 => by
    obtain ⟨a, dx, fs, t, vs, rfl, ha, ht, rr, hsp⟩ := hp Hf1 H1 v s1.sf r1
    have hl := Paired.length rr
    refine ⟨a, dx, fs, rfl, ha, fun n' hn => hsp n' _ fun it hit hm => ⟨it, t, rfl, hm, upd_same, ?_⟩⟩
    rw [drop_upd hit]
    refine fun D nD => ?_
    refine lc_tup (a := t) (xs := vs) (fun i H' => LcInv e Z ρ σ Hf1 D Iv i H') (lc_start s1 nD i0) (fun i H' _ ⟨acc, b', Hf', as, _, s', e', _⟩ => SqT.of (s'.sf _ _ (e' _ _ ht))) ?_ ?_
    · intro i v H' hv iv
      obtain ⟨d, hd, rd⟩ := rr.get' hv
      exact lc_step iv (lc_own s1 nD) rd fun acc b' z => turn i d acc b' hd z
    · intro H' iv
      rw [← hl] at iv
      exact lc_end iv e1 s1 nD fin c
theorem s_forO (Iv : Nat → List Slot → Int → Prop) (h : G e ta ρ b fun p b1 => ∃ ds, ItsO K C sn p ds ∧ Iv 0 ρ b1 ∧ (∀ i d ρ' b', ds[i]? = some d → Iv i ρ' b' → At e g d ρ' b' fun ρ2 b2 => S e tb' ρ2 b2 (Iv (i + 1)) R) ∧ ∀ ρ' b', Iv ds.length ρ' b' → N ρ' b') :
    S e (tFor (iOwn C sn K n ta) g tb') ρ b N R := fun Z σ Hf H D s nn r =>
  h Z σ Hf H _ s fun p b1 v Hf1 H1 ⟨ds, hp, i0, turn, fin⟩ s1 e1 r1 => by
    obtain ⟨a, dx, fs, t, vs, rfl, ha, ht, rr, hsp⟩ := hp Hf1 H1 v s1.sf r1
    have hl := Paired.length rr
    refine ⟨a, dx, fs, rfl, ha, fun n' hn => hsp n' _ fun it hit hm => ⟨it, t, rfl, hm, upd_same, ?_⟩⟩
    rw [drop_upd hit]
    refine for_tup (xs := vs) (fun i σ' H' => ∃ ρ' b' Hf', Iv i ρ' b' ∧ StOk e Z ρ' b' σ' Hf' H' ∧ Same Hf1 Hf') ⟨ρ, b1, Hf1, i0, s1, .refl _⟩ (fun i σ' H' _ ⟨ρ', b', Hf', _, s', e'⟩ => SqT.of (s'.sf _ _ (e' _ _ ht))) ?_ ?_
    · rintro i v σ' H' hv ⟨ρ', b', Hf', iv, s', e'⟩
      obtain ⟨d, hd, rd⟩ := rr.get' hv
      refine turn i d ρ' b' hd iv Z σ' Hf' H' v _ s' (RP.m _ e' rd) fun ρ2 σ2 x s2 => ?_
      exact x Z σ2 Hf' H' _ s2 (fun ρ3 b3 σ3 Hf3 H3 y s3 e3 => ⟨ρ3, b3, Hf3, y, s3, e'.trans e3⟩) fun p b3 ρ3 u σ3 Hf3 H3 y s3 e3 ru => r p b3 ρ3 u σ3 Hf3 H3 y s3 ((e1.trans e').trans e3) ru
    · rintro σ' H' ⟨ρ', b', Hf', iv, s', e'⟩
      rw [← hl] at iv
      exact nn ρ' b' σ' Hf' H' (fin ρ' b' iv) s' (e1.trans e')

/-! ### built-ins -/
theorem oc_len {ps : List RP} {kk : RP → Prop} (h : kk (I ps.length)) : OC (fun xs H Q => ∃ p ys, xs = [.ref p] ∧ (SqL K H p ys ∨ SqT K H p ys) ∧ Q (.int ys.length) H) [lR ps] kk := fun Hf H xs Q s r c => by
  cases r with
  | cons r1 r2 =>
    cases r2
    obtain ⟨a, vs, rfl, ha, rr⟩ := r1
    exact ⟨a, vs, rfl, .inl (SqL.of (s _ _ ha)), c _ _ Hf H h (.refl s) (by rw [Paired.length rr]; rfl)⟩
theorem oc_lenT {ps : List RP} {kk : RP → Prop} (h : kk (I ps.length)) : OC (fun xs H Q => ∃ p ys, xs = [.ref p] ∧ (SqL K H p ys ∨ SqT K H p ys) ∧ Q (.int ys.length) H) [tR ps] kk := fun Hf H xs Q s r c => by
  cases r with
  | cons r1 r2 =>
    cases r2
    obtain ⟨a, vs, rfl, ha, rr⟩ := r1
    exact ⟨a, vs, rfl, .inr (SqT.of (s _ _ ha)), c _ _ Hf H h (.refl s) (by rw [Paired.length rr]; rfl)⟩
end
/-- what grows no more is kept -/
def NM (H H' : Hp) : Prop := ∀ a o, H a = some o → ¬ Mb o → H' a = some o
theorem froz_nm {Hf H H' : Hp} (t : ∀ a o u, H a = some o → Mb o → H' a = some u → Mb u) : NM H' (froz Hf H H') := fun a o h n => froz_at h (.inl n) t
theorem but_mb {p : Addr} {H H' : Hp} (t : But p H H') (h : ∀ u, H' p = some u → Mb u) : ∀ a o u, H a = some o → Mb o → H' a = some u → Mb u := fun a o u e m e' => by
  by_cases c : a = p
  · subst c; exact h u e'
  · rw [t _ _ e c] at e'; cases e'; exact m

section
variable {e : Ev} {ρ : List Slot} {b : Int} {k : RP → Int → Prop} {kl : List RP → Int → Prop} {ta tb te tc : TE} {i : Nat} {p q : RP} {kk : RP → Prop} {K : PySem.W.Frag} {t : TA}
/-! ### types -/
def HasT (K : PySem.W.Frag) (p : RP) (t : Value) : Prop := ∀ H v, p.r H v → TyX K H v t
theorem ht_l {ps : List RP} : HasT K (lR ps) (.type "list") := fun H v ⟨a, vs, e, h, _⟩ => by subst e; exact .base (.lst h)
theorem ht_t {ps : List RP} : HasT K (tR ps) (.type "tuple") := fun H v ⟨a, vs, e, h, _⟩ => by subst e; exact .base (.tup h)
theorem ht_i {n : Int} : HasT K (I n) (.type "int") := fun H v h => by cases (show v = .int n from h); exact .base (.int n)
theorem ht_b {n : Bool} : HasT K (B n) (.type "bool") := fun H v h => by cases (show v = .bl n from h); exact .base (.bl n)
theorem ht_s {n : Str} : HasT K (St' n) (.type "str") := fun H v h => by cases (show v = .str n from h); exact .base (.str n)
theorem ht_n : HasT K Nn (.type "NoneType") := fun H v h => by cases (show v = .non from h); exact .base .non
theorem oc_isi {c : V} {ty u : Value} {r : Bool} (hp : HasT K p ty) (hc : ClsV c u) (hk : PySem.W.kitOne K ty u = some r) (h : kk (B r)) : OC (rIsi K) [p, cV c] kk := fun Hf H xs Q s rr g => by
  cases rr with
  | cons r1 r2 =>
    cases r2 with
    | cons r2 r3 =>
      cases r3
      cases (show _ = c from r2)
      exact ⟨_, _, ty, u, r, rfl, hc, hp _ _ (RP.m _ s r1), hk, g _ _ Hf H h (.refl s) rfl⟩
theorem oc_int1 {n : Int} (h : kk (I n)) : OC (fun xs H Q => (∃ i, xs = [V.int i] ∧ Q (V.int i) H) ∨ ∃ k, xs = [V.bl k] ∧ Q (V.int (if k then 1 else 0)) H) [I n] kk := fun Hf H xs Q s rr g => by
  cases rr with
  | cons r1 r2 =>
    cases r2
    cases (show _ = V.int n from r1)
    exact .inl ⟨n, rfl, g _ _ Hf H h (.refl s) rfl⟩
theorem oc_intB {n : Bool} (h : kk (I (if n then 1 else 0))) : OC (fun xs H Q => (∃ i, xs = [V.int i] ∧ Q (V.int i) H) ∨ ∃ k, xs = [V.bl k] ∧ Q (V.int (if k then 1 else 0)) H) [B n] kk := fun Hf H xs Q s rr g => by
  cases rr with
  | cons r1 r2 =>
    cases r2
    cases (show _ = V.bl n from r1)
    exact .inr ⟨n, rfl, g _ _ Hf H h (.refl s) rfl⟩
theorem oc_reprI {n : Int} (hn : n.natAbs.log2 < 1920) (h : kk (St' (toString n))) : OC (fun xs H Q => ∃ i, xs = [V.int i] ∧ i.natAbs.log2 < 1920 ∧ Q (V.str (toString i)) H) [I n] kk := fun Hf H xs Q s rr g => by
  cases rr with
  | cons r1 r2 =>
    cases r2
    cases (show _ = V.int n from r1)
    exact ⟨n, rfl, hn, g _ _ Hf H h (.refl s) rfl⟩
theorem rps_ints {H : Hp} : ∀ {ns : List Int} {vs : List V}, Rps H (ns.map RL.I) vs → vs = ns.map V.int
  | [], _, .nil => rfl
  | n :: ns, _, .cons h t => by rw [rps_ints t, show _ = V.int n from h] <;> rfl
theorem ints_rps {H : Hp} : ∀ (ns : List Int), Rps H (ns.map RL.I) (ns.map V.int)
  | [] => .nil
  | n :: ns => .cons rfl (ints_rps ns)
theorem oc_min {ns : List Int} (hn : 0 < ns.length) (h : ∀ m, m ∈ ns → (∀ y, y ∈ ns → m ≤ y) → kk (I m)) : OC (rMin K) [lR (ns.map RL.I)] kk := fun Hf H xs Q s rr g => by
  cases rr with
  | cons r1 r2 =>
    cases r2
    obtain ⟨a, vs, rfl, ha, r⟩ := r1
    have := rps_ints r
    subst this
    exact ⟨a, ns, rfl, SqL.of (s _ _ ha), hn, fun m h1 h2 => g _ _ Hf H (h m h1 h2) (.refl s) rfl⟩
theorem oc_max {ns : List Int} (hn : 0 < ns.length) (h : ∀ m, m ∈ ns → (∀ y, y ∈ ns → y ≤ m) → kk (I m)) : OC (rMax K) [lR (ns.map RL.I)] kk := fun Hf H xs Q s rr g => by
  cases rr with
  | cons r1 r2 =>
    cases r2
    obtain ⟨a, vs, rfl, ha, r⟩ := r1
    have := rps_ints r
    subst this
    exact ⟨a, ns, rfl, SqL.of (s _ _ ha), hn, fun m h1 h2 => g _ _ Hf H (h m h1 h2) (.refl s) rfl⟩
/-! ### new lists and tuples of old ones -/
theorem new_l {Hf H : Hp} {Q : VK} {ps : List RP} {vs : List V} (s : Same Hf H) (r : Rps Hf ps vs) (h : kk (lR ps)) (g : ∀ z v Hf' H', kk z → Ex Hf H Hf' H' → z.r Hf' v → Q v H') : ∀ l, H l = none → Q (.ref l) (L2.upd H l (.lst vs)) := fun l nl =>
  g _ _ _ _ h (.new s nl) ⟨l, vs, rfl, upd_same, r.same (.new1 (s.free nl))⟩
theorem new_t {Hf H : Hp} {Q : VK} {ps : List RP} {vs : List V} (s : Same Hf H) (r : Rps Hf ps vs) (h : kk (tR ps)) (g : ∀ z v Hf' H', kk z → Ex Hf H Hf' H' → z.r Hf' v → Q v H') : ∀ l, H l = none → Q (.ref l) (L2.upd H l (.tup vs)) := fun l nl =>
  g _ _ _ _ h (.new s nl) ⟨l, vs, rfl, upd_same, r.same (.new1 (s.free nl))⟩
theorem oc_list {ps : List RP} (h : kk (lR ps)) : OC (fun xs H Q => ∃ p ys, xs = [V.ref p] ∧ (SqL K H p ys ∨ SqT K H p ys) ∧ ∀ l, H l = none → Q (V.ref l) (L2.upd H l (.lst ys))) [lR ps] kk := fun Hf H xs Q s rr g => by
  cases rr with
  | cons r1 r2 =>
    cases r2
    obtain ⟨a, vs, rfl, ha, r⟩ := r1
    exact ⟨a, vs, rfl, .inl (SqL.of (s _ _ ha)), new_l s r h g⟩
theorem oc_listT {ps : List RP} (h : kk (lR ps)) : OC (fun xs H Q => ∃ p ys, xs = [V.ref p] ∧ (SqL K H p ys ∨ SqT K H p ys) ∧ ∀ l, H l = none → Q (V.ref l) (L2.upd H l (.lst ys))) [tR ps] kk := fun Hf H xs Q s rr g => by
  cases rr with
  | cons r1 r2 =>
    cases r2
    obtain ⟨a, vs, rfl, ha, r⟩ := r1
    exact ⟨a, vs, rfl, .inr (SqT.of (s _ _ ha)), new_l s r h g⟩
theorem gn_list (h : GA e t ρ b fun ps b1 => ∃ qs, (ps = [lR qs] ∨ ps = [tR qs]) ∧ kl qs b1) : GN e (tCB (fun xs H Q => ∃ p ys, xs = [V.ref p] ∧ (SqL K H p ys ∨ SqT K H p ys) ∧ ∀ l, H l = none → Q (V.ref l) (L2.upd H l (.lst ys))) t) ρ b kl := fun Z σ Hf H Q s c =>
  h Z σ Hf H _ s fun ps b1 vs Hf1 H1 ⟨qs, hq, x⟩ s1 e1 r1 => by
    rcases hq with rfl | rfl
    · cases r1 with
      | cons r1 r2 =>
        cases r2
        obtain ⟨a, ws, rfl, ha, r⟩ := r1
        exact ⟨a, ws, rfl, .inl (SqL.of (s1.sf _ _ ha)), fun l nl => c qs b1 l ws Hf1 H1 Hf1 _ x s1 e1 (.newU s1.sf nl) nl (s1.sf.free nl) upd_same r⟩
    · cases r1 with
      | cons r1 r2 =>
        cases r2
        obtain ⟨a, ws, rfl, ha, r⟩ := r1
        exact ⟨a, ws, rfl, .inr (SqT.of (s1.sf _ _ ha)), fun l nl => c qs b1 l ws Hf1 H1 Hf1 _ x s1 e1 (.newU s1.sf nl) nl (s1.sf.free nl) upd_same r⟩
theorem oc_tuple {ps : List RP} (h : kk (tR ps)) : OC (fun xs H Q => ∃ p ys, xs = [V.ref p] ∧ ((SqL K H p ys ∧ ∀ l, H l = none → Q (V.ref l) (L2.upd H l (.tup ys))) ∨ (SqT K H p ys ∧ Q (V.ref p) H))) [lR ps] kk := fun Hf H xs Q s rr g => by
  cases rr with
  | cons r1 r2 =>
    cases r2
    obtain ⟨a, vs, rfl, ha, r⟩ := r1
    exact ⟨a, vs, rfl, .inl ⟨SqL.of (s _ _ ha), new_t s r h g⟩⟩
theorem o2_cat {ps qs : List RP} (hl : ps.length + qs.length ≤ 1000000) (h : kk (lR (ps ++ qs))) : O2 rCat (lR ps) (lR qs) kk := fun Hf H x y Q s r1 r2 g => by
  obtain ⟨a, vs, rfl, ha, ra⟩ := r1
  obtain ⟨c, ws, rfl, hc, rc⟩ := r2
  have l1 := Paired.length ra
  have l2 := Paired.length rc
  exact ⟨a, c, vs, ws, rfl, rfl, s _ _ ha, s _ _ hc, by have := sizeLine_eq; omega, new_l s (ra.append rc) h g⟩
theorem rps_rep {H : Hp} {ps : List RP} {vs : List V} (r : Rps H ps vs) : ∀ n : Nat, Rps H (List.replicate n ps).flatten (List.replicate n vs).flatten
  | 0 => .nil
  | n + 1 => by
    rw [List.replicate_succ, List.replicate_succ, List.flatten_cons, List.flatten_cons]
    exact r.append (rps_rep r n)
theorem o2_rep {ps : List RP} {n : Int} (hn : 0 ≤ n ∧ n ≤ 1000) (hl : ps.length ≤ 1000) (h : kk (lR (List.replicate n.toNat ps).flatten)) : O2 rRep (lR ps) (I n) kk := fun Hf H x y Q s r1 r2 g => by
  obtain ⟨a, vs, rfl, ha, ra⟩ := r1
  cases (show y = V.int n from r2)
  have l1 := Paired.length ra
  refine ⟨a, n, vs, rfl, rfl, s _ _ ha, by omega, by omega, ?_, new_l s (rps_rep ra _) h g⟩
  have : vs.length * n.toNat ≤ 1000 * 1000 := Nat.mul_le_mul (by omega) (by omega)
  have := sizeLine_eq
  omega
def GO (e : Ev) (t : TO) (ρ : List Slot) (b : Int) (k : Option Int → Int → Prop) : Prop :=
  ∀ (Z : Zn) (σ : L2.St) (Hf H : Hp) (Q : Option Int → Hp → Prop), StOk e Z ρ b σ Hf H → (∀ o b' Hf' H', k o b' → StOk e Z ρ b' σ Hf' H' → Same Hf Hf' → Q o H') → t σ H Q
theorem go_none {k : Option Int → Int → Prop} (h : k none b) : GO e tNoPart ρ b k := fun Z σ Hf H Q s c => c none b Hf H h s (.refl _)
theorem go_some {k : Option Int → Int → Prop} (h : G e te ρ b fun p b1 => ∃ n, p = I n ∧ k (some n) b1) : GO e (tPart te) ρ b k := fun Z σ Hf H Q s c =>
  h Z σ Hf H _ s fun p b1 v Hf1 H1 ⟨n, hp, x⟩ s1 e1 r1 => by subst hp; exact ⟨n, r1, c (some n) b1 Hf1 H1 x s1 e1⟩
def cutR {α : Type} (xs : List α) (lo hi : Option Int) : List α := (xs.drop (HT.sIx xs.length 0 lo)).take (HT.sIx xs.length xs.length hi - HT.sIx xs.length 0 lo)
theorem cut_rps {H : Hp} {ps : List RP} {vs : List V} (r : Rps H ps vs) (lo hi : Option Int) : Rps H (cutR ps lo hi) (cutV vs lo hi) := by
  unfold cutV cutR
  rw [Paired.length r]
  exact Rps.take _ (Rps.drop _ r)
theorem g_slL {tl th : TO} (h : G e te ρ b fun p b1 => ∃ ps, p = lR ps ∧ GO e tl ρ b1 fun lo b2 => GO e th ρ b2 fun hi b3 => k (lR (cutR ps lo hi)) b3) : G e (L2.tSl (rSlL K) te tl th) ρ b k := fun Z σ Hf H Q s c =>
  h Z σ Hf H _ s fun p b1 v Hf1 H1 ⟨ps, hp, x⟩ s1 e1 r1 => by
    subst hp
    refine x Z σ Hf1 H1 _ s1 fun lo b2 Hf2 H2 y s2 e2 => y Z σ Hf2 H2 _ s2 fun hi b3 Hf3 H3 z s3 e3 => ?_
    obtain ⟨a, vs, rfl, ha, rr⟩ := RP.m _ (e2.trans e3) r1
    refine ⟨a, vs, rfl, SqL.of (s3.sf _ _ ha), fun q nq => ?_⟩
    have w := Ex.new (o := .lst (cutV vs lo hi)) s3.sf nq
    exact c _ b3 _ _ _ z (s3.move w) (((e1.trans e2).trans e3).trans w.ff) ⟨q, _, rfl, upd_same, (cut_rps rr lo hi).same w.ff⟩
theorem g_chain {r r' : R2} (h : G e ta ρ b fun p b1 => G e tb ρ b1 fun q b2 => O2 r p q fun z => ∃ c, z = B c ∧ (c = true → G e tc ρ b2 fun w b3 => O2 r' q w fun z => k z b3) ∧ (c = false → k (B false) b2)) : G e (tChain r r' ta tb tc) ρ b k := fun Z σ Hf H Q s c =>
  h Z σ Hf H _ s fun p b1 v Hf1 H1 x s1 e1 r1 => x Z σ Hf1 H1 _ s1 fun q b2 u Hf2 H2 y s2 e2 r2 => y Hf2 H2 v u _ s2.sf (RP.m _ e2 r1) r2 fun z w Hf3 H3 ⟨d, hz, kt, kf⟩ e3 rz => by
    subst hz
    refine ⟨d, rz, ?_⟩
    have s3 := s2.move e3
    cases d with
    | false => exact c _ b2 _ Hf3 H3 (kf rfl) s3 ((e1.trans e2).trans e3.ff) rfl
    | true => exact kt rfl Z σ Hf3 H3 _ s3 fun w' b4 u' Hf4 H4 m s4 e4 r4 => m Hf4 H4 u u' _ s4.sf (RP.m _ (e3.ff.trans e4) r2) r4 fun z2 w2 Hf5 H5 k5 e5 r5 => c z2 b4 w2 Hf5 H5 k5 (s4.move e5) ((((e1.trans e2).trans e3.ff).trans e4).trans e5.ff) r5
/-- a form that leans on nothing that may grow -/
def Pl (p : RP) : Prop := ∀ H H' v, NM H H' → p.r H v → p.r H' v
/-- one's own list is read in an expression that keeps nothing of it -/
theorem g_lend {ps : List RP} (i : Nat) (h : ρ[i]? = some (.own ps)) (x : G e te ((ro ρ).set i (.val (lR ps))) b fun p b' => Pl p ∧ k p b') : G e te ρ b k := fun Z σ Hf H Q s c => by
  obtain ⟨a, vs, e1, e2, e3, e4, e5⟩ := s.own h
  have ff : Same Hf (L2.upd Hf a (.lst vs)) := .new1 e2
  have fh : Same (L2.upd Hf a (.lst vs)) H := fun c o x => by
    by_cases z : c = a
    · subst z; rw [upd_same] at x; cases x; exact e3
    · rw [upd_ne z] at x; exact s.sf _ _ x
  have si := s.inner []
  have nown : ∀ (j : Nat) (qs : List RP), ((ro ρ).set i (.val (lR ps)))[j]? ≠ some (Slot.own qs) := fun j qs hj => by
    rcases set_get hj with ⟨_, z⟩ | ⟨_, hj⟩
    · cases z
    · unfold ro at hj
      rw [List.getElem?_map] at hj
      cases g : ρ[j]? with
      | none => rw [g] at hj; cases hj
      | some y =>
        rw [g] at hj
        cases y <;> cases hj
  have s1 : StOk e ⟨H, L2.upd Hf a (.lst vs)⟩ ((ro ρ).set i (.val (lR ps))) b σ (L2.upd Hf a (.lst vs)) H := by
    refine ⟨fh, Fr.refl, .refl _, fun _ _ _ _ n => n, fun y hy => ⟨(s.pn y hy).1, by rw [upd_ne (Ne.symm (e5 y hy).1)]; exact (s.pn y hy).2⟩, ?_, fun j _ _ qs _ _ hj => (nown j qs hj).elim, fun j _ qs hj => (nown j qs hj).elim, ?_⟩
    · refine RL.Paired.ix (by rw [List.length_set]; exact Paired.length si.sl) fun j x y hx hy => ?_
      rcases set_get hx with ⟨rfl, rfl⟩ | ⟨nj, hx⟩
      · rw [hy] at e1
        cases e1
        exact ⟨_, rfl, a, vs, rfl, upd_same, e4.same ff⟩
      · obtain ⟨y', hy', gg⟩ := RL.Paired.get si.sl hx
        have hy' : σ[j]? = some y' := hy'
        rw [hy] at hy'
        cases hy'
        cases x with
        | no => trivial
        | val p => obtain ⟨v, e, r⟩ := gg; exact ⟨v, e, RP.m _ ff r⟩
        | own qs => exact (nown j qs (by rw [List.getElem?_set_ne (Ne.symm nj)]; exact hx)).elim
        | pen => exact gg
    · intro C d fs us b' Hf' H' hX hF hP hS h0 hN hd hfs hn
      refine s.ex C d fs us b' Hf' H' hX (s.fr.trans hF) hP hS (s.f0.trans (ff.trans h0)) (fun d o z m n => ?_) hd hfs ?_
      · obtain ⟨o', h', m'⟩ := s.oldM z m
        exact hN d o' h' m' ((upd_ne fun q => by subst q; rw [s.on i d ps h e1] at z; cases z).trans (s.nw d o z m n))
      · cases g : Z.H0 d with
        | none => rfl
        | some o =>
          obtain ⟨o', h'⟩ := s.old g
          have hn : H d = none := hn
          rw [hn] at h'
          cases h'
  refine x ⟨H, L2.upd Hf a (.lst vs)⟩ σ (L2.upd Hf a (.lst vs)) H Q s1 fun p b' v Hf' H' ⟨pl, kp⟩ s' e' rv => ?_
  have hL : H' a = some (.lst vs) := s'.fr _ _ e3 fun y hy => (e5 y hy).1
  have hfa : Hf' a = some (.lst vs) := e' _ _ upd_same
  have e6 : Same Hf (fun c => if c = a then none else Hf' c) := fun d o z => by
    show (if d = a then none else Hf' d) = some o
    rw [if_neg (ne_of_none z e2)]
    exact e' _ _ (ff _ _ z)
  have sub : Same (fun c => if c = a then none else Hf' c) H' := fun d o z => by
    have z : (if d = a then none else Hf' d) = some o := z
    split at z
    · cases z
    · exact s'.sf _ _ z
  have none_ : ∀ d, Hf' d = none → (if d = a then none else Hf' d) = none := fun d z => by
    split
    · rfl
    · exact z
  refine c p b' v _ H' kp ⟨sub, s.fr.trans s'.fr, s.f0.trans e6, fun d o z m n => ?_, fun y hy => ⟨(s'.pn y hy).1, none_ _ (s'.pn y hy).2⟩, ?_, s.ap, s.on, s.ex⟩ e6 (pl _ _ _ (fun d o z m => ?_) rv)
  · obtain ⟨o', h', m'⟩ := s.oldM z m
    exact none_ d (s'.nw d o' h' m' ((upd_ne fun q => by subst q; rw [s.on i d ps h e1] at z; cases z).trans (s.nw d o z m n)))
  · refine RL.Paired.ix (Paired.length s.sl) fun j x y hx hy => ?_
    obtain ⟨y', hy', gg⟩ := RL.Paired.get s.sl hx
    rw [hy] at hy'
    cases hy'
    by_cases c : j = i
    · subst c
      rw [h] at hx
      cases hx
      rw [hy] at e1
      cases e1
      exact ⟨a, vs, rfl, if_pos rfl, hL, e4.same e6, e5⟩
    · cases x with
      | no => trivial
      | val p => obtain ⟨v, e, r⟩ := gg; exact ⟨v, e, RP.m _ e6 r⟩
      | own qs =>
        obtain ⟨d, ws, z1, z2, z3, z4, z5⟩ := gg
        subst z1
        have nd : d ≠ a := fun q => by subst q; exact s.ap i j d ps qs (Ne.symm c) h hx e1 hy
        exact ⟨d, ws, rfl, none_ d (s'.nw d _ z3 trivial ((upd_ne nd).trans z2)), s'.fr _ _ z3 fun y hy => (z5 y hy).1, z4.same e6, z5⟩
      | pen => exact gg
  · show (if d = a then none else Hf' d) = some o
    rw [if_neg fun q => by subst q; rw [hfa] at z; cases z; exact m trivial]
    exact z
end

section
variable {e : Ev} {ρ : List Slot} {b : Int} {k : RP → Int → Prop} {ta tb te tc : TE} {i : Nat} {p q : RP} {kk : RP → Prop} {K : PySem.W.Frag} {t : TA}
theorem g_ixOwn {ps : List RP} (h : ρ[i]? = some (.own ps)) (x : G e tb ρ b fun q b2 => ∃ j p, q = I j ∧ atI ps j = some p ∧ k p b2) : G e (tOp (rIxL K) (tVar i) tb) ρ b k := fun Z σ Hf H Q s c => by
  obtain ⟨a, vs, e1, e2, e3, e4, e5⟩ := s.own h
  refine ⟨_, e1, x Z σ Hf H _ s fun q b2 u Hf2 H2 ⟨j, p, hq, hp, y⟩ s2 ee r2 => ?_⟩
  subst hq
  cases (show u = .int j from r2)
  obtain ⟨a', ws, f1, f2, f3, f4, _⟩ := s2.own h
  rw [e1] at f1
  cases f1
  unfold atI at hp
  rw [Paired.length f4] at hp
  cases en : ixN ws.length j with
  | none => rw [en] at hp; cases hp
  | some m =>
    rw [en] at hp
    obtain ⟨w, g1, g2⟩ := f4.get hp
    exact ⟨a, ws, j, w, rfl, rfl, SqL.of f3, by unfold atI; rw [en]; exact g1, c p b2 w Hf2 H2 y s2 ee g2⟩
theorem g_lenOwn {ps : List RP} (h : ρ[i]? = some (.own ps)) (x : k (I ps.length) b) : G e (tCB (fun xs H Q => ∃ p ys, xs = [V.ref p] ∧ (SqL K H p ys ∨ SqT K H p ys) ∧ Q (V.int ys.length) H) (tCons (tVar i) tNil)) ρ b k := fun Z σ Hf H Q s c => by
  obtain ⟨a, vs, e1, e2, e3, e4, e5⟩ := s.own h
  exact ⟨_, e1, a, vs, rfl, .inl (SqL.of e3), c _ b _ Hf H x s (.refl _) (by rw [Paired.length e4]; rfl)⟩
theorem pl_c {v : V} : Pl (cV v) := fun _ _ _ _ h => h
/-- the pen's bound may be told greater -/
theorem StOk.weak {Z : Zn} {b' : Int} {σ : L2.St} {Hf H : Hp} (hb : b ≤ b') (s : StOk e Z ρ b σ Hf H) : StOk e Z ρ b' σ Hf H := ⟨s.sf, s.fr, s.f0, s.nw, fun x hx => ⟨(s.pn x hx).1.mono hb, (s.pn x hx).2⟩, s.sl, s.ap, s.on, s.ex⟩
theorem s_wk {N : List Slot → Int → Prop} {R : RP → Int → Prop} {ts : TS} {b' : Int} (hb : b ≤ b') (h : S e ts ρ b' N R) : S e ts ρ b N R := fun Z σ Hf H D s n r => h Z σ Hf H D (s.weak hb) n r
theorem g_wk {b' : Int} (hb : b ≤ b') (h : G e te ρ b' k) : G e te ρ b k := fun Z σ Hf H Q s c => h Z σ Hf H Q (s.weak hb) c
end

section
variable {e : Ev} {ρ : List Slot} {b : Int} {k : RP → Int → Prop} {ta tb te tc : TE} {i : Nat} {p q : RP} {kk : RP → Prop} {K : PySem.W.Frag} {N : List Slot → Int → Prop} {R : RP → Int → Prop} {t1 t2 : TS} {t u : TT} {kb : Bool → Int → Prop}
theorem s_ifF (h : T e t ρ b fun c b1 => c = false ∧ S e t2 ρ b1 N R) : S e (tIfS t t1 t2) ρ b N R := s_if (h.mono fun c b1 ⟨e, x⟩ => ⟨fun z => (by rw [e] at z; cases z), fun _ => x⟩)
theorem s_ifT (h : T e t ρ b fun c b1 => c = true ∧ S e t1 ρ b1 N R) : S e (tIfS t t1 t2) ρ b N R := s_if (h.mono fun c b1 ⟨e, x⟩ => ⟨fun _ => x, fun z => (by rw [e] at z; cases z)⟩)
theorem t_orF (h : T e t ρ b fun c b1 => c = false ∧ T e u ρ b1 kb) : T e (tOr t u) ρ b kb := t_or (h.mono fun c b1 ⟨e, x⟩ => ⟨fun z => (by rw [e] at z; cases z), fun _ => x⟩)
theorem t_andT (h : T e t ρ b fun c b1 => c = true ∧ T e u ρ b1 kb) : T e (tAnd t u) ρ b kb := t_and (h.mono fun c b1 ⟨e, x⟩ => ⟨fun _ => x, fun z => (by rw [e] at z; cases z)⟩)
theorem g_ifT (h : T e t ρ b fun c b1 => c = true ∧ G e ta ρ b1 k) : G e (tIf t ta tb) ρ b k := g_if (h.mono fun c b1 ⟨e, x⟩ => ⟨fun _ => x, fun z => (by rw [e] at z; cases z)⟩)
theorem g_ifF (h : T e t ρ b fun c b1 => c = false ∧ G e tb ρ b1 k) : G e (tIf t ta tb) ρ b k := g_if (h.mono fun c b1 ⟨e, x⟩ => ⟨fun z => (by rw [e] at z; cases z), fun _ => x⟩)
theorem g_andT (h : G e ta ρ b fun p b1 => p = B true ∧ G e tb ρ b1 k) : G e (tAndV ta tb) ρ b k := g_and (h.mono fun p b1 ⟨e, x⟩ => ⟨true, e, fun _ => x, fun z => (by cases z)⟩)
theorem g_orF (h : G e ta ρ b fun p b1 => p = B false ∧ G e tb ρ b1 k) : G e (tOrV ta tb) ρ b k := g_or (h.mono fun p b1 ⟨e, x⟩ => ⟨false, e, fun z => (by cases z), fun _ => x⟩)
/-- two equal texts -/
theorem o2_neS {x : Str} (h : kk (B false)) : O2 rNe (St' x) (St' x) kk := o2_ne rfl (by rw [decide_eq_true rfl]; exact h)
theorem o2_eqS {x : Str} (h : kk (B true)) : O2 rEq (St' x) (St' x) kk := o2_eq rfl (by rw [decide_eq_true rfl]; exact h)
/-- the comprehension that copies -/
theorem lc_copyT {j : Nat} {Iv : Nat → List RP → Int → Prop} {d : RP} {acc : List RP} {b' : Int} {ws : List Nat} (hw : i ∈ ws) (hl : acc.length < 1000000) (hg : ((wipeR (ro ρ) ws).set i (.val d))[i]? = some (.val d)) (h : Iv (j + 1) (acc ++ [d]) b') :
    LcTurn e ws (gName i) tYes (tVar i) ρ Iv j d acc b' := w_name hw (t_yes ⟨fun _ => g_var hg ⟨hl, h⟩, fun z => (by cases z)⟩)
end

/-! ### what repr can show -/
def Sw (n m : Nat) (d : PyData) : Prop := d.showable = true ∧ d.depth ≤ n ∧ d.hasDict = false ∧ d.shown.length ≤ m
theorem Sw.shw {n m : Nat} {d : PyData} (h : Sw n m d) (hn : n ≤ 60) (hm : m ≤ 16000000) : Shw d := ⟨h.1, Nat.le_trans h.2.1 hn, h.2.2.1, by rw [sizeLine_eq]; have := h.2.2.2; omega⟩
theorem Sw.mono {n m n' m' : Nat} {d : PyData} (h : Sw n m d) (hn : n ≤ n') (hm : m ≤ m') : Sw n' m' d := ⟨h.1, Nat.le_trans h.2.1 hn, h.2.2.1, Nat.le_trans h.2.2.2 hm⟩
theorem sw_int {i : Int} (h : i.natAbs < 10 ^ 200) : Sw 0 201 (.int i) := ⟨int_showable h, Nat.le_refl _, rfl, int_shown h⟩
theorem sw_bl (c : Bool) : Sw 0 201 (.bool c) := ⟨rfl, Nat.le_refl _, rfl, by cases c <;> decide⟩
theorem sw_non : Sw 0 201 .none := ⟨rfl, Nat.le_refl _, rfl, by decide⟩
theorem sw_all {n m : Nat} : ∀ {ds : List PyData}, (∀ d ∈ ds, Sw n m d) → PyData.showableAll ds = true ∧ PyData.depthAll ds ≤ n ∧ PyData.hasDictAll ds = false ∧
    ((PyData.shownAll ds).map (·.length)).sum ≤ m * ds.length ∧ (PyData.shownAll ds).length = ds.length
  | [], _ => ⟨rfl, Nat.zero_le _, rfl, Nat.zero_le _, rfl⟩
  | d :: r, h => by
    obtain ⟨h1, h2, h3, h4, h5⟩ := sw_all (ds := r) fun i hi => h i (List.mem_cons_of_mem _ hi)
    obtain ⟨a1, a2, a3, a4⟩ := h d List.mem_cons_self
    refine ⟨?_, ?_, ?_, ?_, ?_⟩
    · simp only [PyData.showableAll, h1, a1, Bool.and_self]
    · simp only [PyData.depthAll]
      omega
    · simp only [PyData.hasDictAll, h3, a3, Bool.or_self]
    · simp only [PyData.shownAll, List.map_cons, List.sum_cons, List.length_cons, Nat.mul_add]
      omega
    · simp only [PyData.shownAll, List.length_cons, h5]


theorem sw_list {n m L : Nat} {ds : List PyData} (h : ∀ d ∈ ds, Sw n m d) (hl : ds.length ≤ L) : Sw (n + 1) ((m + 2) * L + 3) (.list ds) := by
  obtain ⟨h1, h2, h3, h4, h5⟩ := sw_all h
  refine ⟨by simpa only [PyData.showable] using h1, by simp only [PyData.depth]; omega, by simpa only [PyData.hasDict] using h3, ?_⟩
  have e := listText_len_le (PyData.shownAll ds)
  have e2 : (PyData.shown (.list ds)).length = (listText (PyData.shownAll ds)).length := by simp only [PyData.shown]
  rw [e2]
  have e3 : m * ds.length ≤ m * L := Nat.mul_le_mul_left _ hl
  rw [Nat.add_mul]
  omega
theorem sw_tup {n m L : Nat} {ds : List PyData} (h : ∀ d ∈ ds, Sw n m d) (hl : ds.length ≤ L) : Sw (n + 1) ((m + 2) * L + 3) (.tuple ds) := by
  obtain ⟨h1, h2, h3, h4, h5⟩ := sw_all h
  refine ⟨by simpa only [PyData.showable] using h1, by simp only [PyData.depth]; omega, by simpa only [PyData.hasDict] using h3, ?_⟩
  have e := tupleText_len_le (PyData.shownAll ds)
  have e2 : (PyData.shown (.tuple ds)).length = (tupleText (PyData.shownAll ds)).length := by simp only [PyData.shown]
  rw [e2]
  have e3 : m * ds.length ≤ m * L := Nat.mul_le_mul_left _ hl
  rw [Nat.add_mul]
  omega

theorem cutR_to {α : Type} {xs : List α} {i : Nat} (h : i ≤ xs.length) : cutR xs none (some (i : Int)) = xs.take i := by
  unfold cutR
  rw [HT.sIx_nat, HT.sIx_none, Nat.min_eq_left h, List.drop_zero, Nat.sub_zero]
theorem cutR_from {α : Type} {xs : List α} {j : Int} {i : Nat} (e : j = (i : Int)) (h : i ≤ xs.length) : cutR xs (some j) none = xs.drop i := by
  subst e
  unfold cutR
  rw [HT.sIx_nat, HT.sIx_none, Nat.min_eq_left h, List.take_of_length_le (by rw [List.length_drop]; omega)]

/-- a law whose first row makes the pen: the rest by forms -/
theorem law_start {K : PySem.W.Frag} {x0 x1 : Str} {N : List Str} {t : TS} {a : Addr} {ns : List Int} {H : Hp} {Q : VK} (hS : SqL K H a (ns.map V.int)) (hn : ns.length ≤ 63) (k : ∀ H', Q (.bl true) H')
    (st : ∀ x, S (evP x) t (.no :: .pen :: List.replicate N.length .no) 0 (fun _ _ => False) (fun p _ => p = B true)) :
    tSeq (tAsg (tC1 (spPen K) (tCons (tVar 0) tNil)) (gName 1)) t { nx := fun _ H' => Q .non H', rt := Q } (L2.start (x0 :: x1 :: N) [.ref a]) H := by
  refine ⟨_, rfl, a, ns, rfl, hS, hn, fun p l ms H1 np s1 hP => ?_⟩
  have e : (L2.start (x0 :: x1 :: N) [V.ref a]).set 1 (some (.ref p)) = some (.ref a) :: some (.ref p) :: List.replicate N.length none := by
    unfold L2.start
    simp [List.replicate_succ]
  show t { nx := fun _ H' => Q .non H', rt := Q } ((L2.start (x0 :: x1 :: N) [V.ref a]).set 1 (some (.ref p))) H1
  rw [e]
  have no : ∀ (i : Nat) (ps : List RP), (Slot.no :: Slot.pen :: List.replicate N.length Slot.no)[i]? ≠ some (Slot.own ps) := fun i ps h => by
    match i, h with
    | 0, h => cases h
    | 1, h => cases h
    | i + 2, h =>
      have m := List.mem_of_getElem? (show (List.replicate N.length Slot.no)[i]? = some (Slot.own ps) by simpa using h)
      cases (List.mem_replicate.mp m).2
  refine st (p, l, ms) ⟨H1, fun _ => none⟩ _ (fun _ => none) H1 _ ⟨(fun _ _ h => by cases h), Fr.refl, .refl _, fun _ _ _ _ n => n, (fun y hy => by cases hy; exact ⟨hP, rfl⟩), .cons trivial (.cons ⟨_, rfl, rfl⟩ (paired_no _)), fun i j a ps qs _ h => (no i ps h).elim, fun i a ps h => (no i ps h).elim, ex0 fun _ _ _ z => z⟩ (fun _ _ _ _ _ z => z.elim) fun p b' ρ' v σ' Hf' H' hp _ _ r => ?_
  subst hp
  cases (show v = .bl true from r)
  exact k H'
end RL
namespace OLP
open PySem PySem.Spec PyProof.Rows L2 OL RL
def top (i : Nat) : Stmt := PySem.Challenge.pw_onelongturn_k23_curves_made.main.body.getD i (.Pass ⟨0, 0, 0, 0⟩)
abbrev s_is_int : Stmt := top 14
theorem sc_is_int : FnScope ["value"] ["value"] (defScope s_is_int) := ⟨rfl, rfl, rfl, by decide +kernel, rfl, by decide +kernel, by decide +kernel⟩
abbrev s_is_number_from_one : Stmt := top 15
theorem sc_is_number_from_one : FnScope ["value"] ["value"] (defScope s_is_number_from_one) := ⟨rfl, rfl, rfl, by decide +kernel, rfl, by decide +kernel, by decide +kernel⟩
abbrev s_is_moment : Stmt := top 16
theorem sc_is_moment : FnScope ["value"] ["value"] (defScope s_is_moment) := ⟨rfl, rfl, rfl, by decide +kernel, rfl, by decide +kernel, by decide +kernel⟩
abbrev s_Day___init__ : Stmt := inClass (top 18) 1
theorem sc_Day___init__ : FnScope ["self", "length"] ["self", "length"] (defScope s_Day___init__) := ⟨rfl, rfl, rfl, by decide +kernel, rfl, by decide +kernel, by decide +kernel⟩
abbrev s_Day___rmod__ : Stmt := inClass (top 18) 2
theorem sc_Day___rmod__ : FnScope ["self", "other"] ["self", "other"] (defScope s_Day___rmod__) := ⟨rfl, rfl, rfl, by decide +kernel, rfl, by decide +kernel, by decide +kernel⟩
abbrev s_Day___rfloordiv__ : Stmt := inClass (top 18) 3
theorem sc_Day___rfloordiv__ : FnScope ["self", "other"] ["self", "other"] (defScope s_Day___rfloordiv__) := ⟨rfl, rfl, rfl, by decide +kernel, rfl, by decide +kernel, by decide +kernel⟩
abbrev s_Day___contains__ : Stmt := inClass (top 18) 7
theorem sc_Day___contains__ : FnScope ["self", "x"] ["self", "x"] (defScope s_Day___contains__) := ⟨rfl, rfl, rfl, by decide +kernel, rfl, by decide +kernel, by decide +kernel⟩
abbrev s_Day___eq__ : Stmt := inClass (top 18) 8
theorem sc_Day___eq__ : FnScope ["self", "other"] ["self", "other"] (defScope s_Day___eq__) := ⟨rfl, rfl, rfl, by decide +kernel, rfl, by decide +kernel, by decide +kernel⟩
abbrev s_Day___str__ : Stmt := inClass (top 18) 9
theorem sc_Day___str__ : FnScope ["self"] ["self"] (defScope s_Day___str__) := ⟨rfl, rfl, rfl, by decide +kernel, rfl, by decide +kernel, by decide +kernel⟩
abbrev s_Curve___init__ : Stmt := inClass (top 41) 0
theorem sc_Curve___init__ : FnScope ["self", "day", "steps"] ["self", "day", "steps"] (defScope s_Curve___init__) := ⟨rfl, rfl, rfl, by decide +kernel, rfl, by decide +kernel, by decide +kernel⟩
abbrev s_Curve___getitem__ : Stmt := inClass (top 41) 1
theorem sc_Curve___getitem__ : FnScope ["self", "at"] ["self", "at"] (defScope s_Curve___getitem__) := ⟨rfl, rfl, rfl, by decide +kernel, rfl, by decide +kernel, by decide +kernel⟩
abbrev s_Curve___iter__ : Stmt := inClass (top 41) 2
theorem sc_Curve___iter__ : FnScope ["self"] ["self"] (defScope s_Curve___iter__) := ⟨rfl, rfl, rfl, by decide +kernel, rfl, by decide +kernel, by decide +kernel⟩
abbrev s_Curve___eq__ : Stmt := inClass (top 41) 3
theorem sc_Curve___eq__ : FnScope ["self", "other"] ["self", "other"] (defScope s_Curve___eq__) := ⟨rfl, rfl, rfl, by decide +kernel, rfl, by decide +kernel, by decide +kernel⟩
abbrev s_Curve_least : Stmt := inClass (top 41) 10
theorem sc_Curve_least : FnScope ["self", "step"] ["self"] (defScope s_Curve_least) := ⟨rfl, rfl, rfl, by decide +kernel, rfl, by decide +kernel, by decide +kernel⟩
abbrev s_Curve_greatest : Stmt := inClass (top 41) 11
theorem sc_Curve_greatest : FnScope ["self", "step"] ["self"] (defScope s_Curve_greatest) := ⟨rfl, rfl, rfl, by decide +kernel, rfl, by decide +kernel, by decide +kernel⟩
abbrev s_are_steps : Stmt := top 42
theorem sc_are_steps : FnScope ["day", "value", "ascend", "at", "step"] ["day", "value"] (defScope s_are_steps) := ⟨rfl, rfl, rfl, by decide +kernel, rfl, by decide +kernel, by decide +kernel⟩
abbrev s_is_step : Stmt := top 43
theorem sc_is_step : FnScope ["day", "value"] ["day", "value"] (defScope s_is_step) := ⟨rfl, rfl, rfl, by decide +kernel, rfl, by decide +kernel, by decide +kernel⟩
abbrev s_fewest_steps : Stmt := top 44
theorem sc_fewest_steps : FnScope ["steps", "fewest", "clock", "number"] ["steps"] (defScope s_fewest_steps) := ⟨rfl, rfl, rfl, by decide +kernel, rfl, by decide +kernel, by decide +kernel⟩
abbrev s_spans_under : Stmt := top 45
theorem sc_spans_under : FnScope ["day", "steps", "ends", "step", "end"] ["day", "steps"] (defScope s_spans_under) := ⟨rfl, rfl, rfl, by decide +kernel, rfl, by decide +kernel, by decide +kernel⟩
abbrev s_height_at : Stmt := top 46
theorem sc_height_at : FnScope ["steps", "clock", "height", "first", "number"] ["steps", "clock"] (defScope s_height_at) := ⟨rfl, rfl, rfl, by decide +kernel, rfl, by decide +kernel, by decide +kernel⟩
abbrev s_law_pen : Stmt := top 52
theorem sc_law_pen : FnScope ["script"] ["script"] (defScope s_law_pen) := ⟨rfl, rfl, rfl, by decide +kernel, rfl, by decide +kernel, by decide +kernel⟩
abbrev s_law_draw : Stmt := top 53
theorem sc_law_draw : FnScope ["pen", "many", "digit", "spot", "cell", "great", "mixed"] ["pen", "many"] (defScope s_law_draw) := ⟨rfl, rfl, rfl, by decide +kernel, rfl, by decide +kernel, by decide +kernel⟩
abbrev s_law_pick : Stmt := top 54
theorem sc_law_pick : FnScope ["pen", "some"] ["pen", "some"] (defScope s_law_pick) := ⟨rfl, rfl, rfl, by decide +kernel, rfl, by decide +kernel, by decide +kernel⟩
abbrev s_law_integer : Stmt := top 55
theorem sc_law_integer : FnScope ["pen"] ["pen"] (defScope s_law_integer) := ⟨rfl, rfl, rfl, by decide +kernel, rfl, by decide +kernel, by decide +kernel⟩
abbrev s_law_drawn : Stmt := top 56
theorem sc_law_drawn : FnScope ["pen", "length", "marks", "turn", "clock", "found", "same"] ["pen", "length"] (defScope s_law_drawn) := ⟨rfl, rfl, rfl, by decide +kernel, rfl, by decide +kernel, by decide +kernel⟩
abbrev s_law_fewest : Stmt := top 57
theorem sc_law_fewest : FnScope ["plain", "k"] ["plain"] (defScope s_law_fewest) := ⟨rfl, rfl, rfl, by decide +kernel, rfl, by decide +kernel, by decide +kernel⟩
abbrev s_law_spans : Stmt := top 58
theorem sc_law_spans : FnScope ["plain", "length", "few", "found", "k", "behind"] ["plain", "length"] (defScope s_law_spans) := ⟨rfl, rfl, rfl, by decide +kernel, rfl, by decide +kernel, by decide +kernel⟩
abbrev s_law_at : Stmt := top 59
theorem sc_law_at : FnScope ["plain", "clock", "first", "value"] ["plain", "clock"] (defScope s_law_at) := ⟨rfl, rfl, rfl, by decide +kernel, rfl, by decide +kernel, by decide +kernel⟩
abbrev s_law_curve_right : Stmt := top 60
theorem sc_law_curve_right : FnScope ["pen", "plain", "length", "handed", "made", "piece", "walks", "clock", "low", "high", "turn", "far", "other", "value"] ["pen", "plain", "length"] (defScope s_law_curve_right) := ⟨rfl, rfl, rfl, by decide +kernel, rfl, by decide +kernel, by decide +kernel⟩
abbrev s_law_equal_right : Stmt := top 61
theorem sc_law_equal_right : FnScope ["pen", "plain", "length", "made", "again", "spot", "bent"] ["pen", "plain", "length"] (defScope s_law_equal_right) := ⟨rfl, rfl, rfl, by decide +kernel, rfl, by decide +kernel, by decide +kernel⟩
abbrev s_law : Stmt := top 62
theorem sc_law : FnScope ["script", "pen", "turn", "length", "plain", "made"] ["script"] (defScope s_law) := ⟨rfl, rfl, rfl, by decide +kernel, rfl, by decide +kernel, by decide +kernel⟩
structure Txt (K : PySem.W.Frag) (mg : Str → Option Value) (ADay ACurve : Addr) : Prop where
  d_is_int : DefT K mg "is_int" s_is_int ["value"]
  d_is_number_from_one : DefT K mg "is_number_from_one" s_is_number_from_one ["value"]
  d_is_moment : DefT K mg "is_moment" s_is_moment ["value"]
  m_Day___init__ : MethT K ADay "__init__" "Day.__init__" s_Day___init__ ["self", "length"]
  m_Day___rmod__ : MethT K ADay "__rmod__" "Day.__rmod__" s_Day___rmod__ ["self", "other"]
  m_Day___rfloordiv__ : MethT K ADay "__rfloordiv__" "Day.__rfloordiv__" s_Day___rfloordiv__ ["self", "other"]
  m_Day___contains__ : MethT K ADay "__contains__" "Day.__contains__" s_Day___contains__ ["self", "x"]
  m_Day___eq__ : MethT K ADay "__eq__" "Day.__eq__" s_Day___eq__ ["self", "other"]
  m_Day___str__ : MethT K ADay "__str__" "Day.__str__" s_Day___str__ ["self"]
  m_Curve___init__ : MethT K ACurve "__init__" "Curve.__init__" s_Curve___init__ ["self", "day", "steps"]
  m_Curve___getitem__ : MethT K ACurve "__getitem__" "Curve.__getitem__" s_Curve___getitem__ ["self", "at"]
  m_Curve___iter__ : MethT K ACurve "__iter__" "Curve.__iter__" s_Curve___iter__ ["self"]
  m_Curve___eq__ : MethT K ACurve "__eq__" "Curve.__eq__" s_Curve___eq__ ["self", "other"]
  m_Curve_least : PropT K ACurve "least" "Curve.least" s_Curve_least ["self"]
  m_Curve_greatest : PropT K ACurve "greatest" "Curve.greatest" s_Curve_greatest ["self"]
  d_are_steps : DefT K mg "are_steps" s_are_steps ["day", "value"]
  d_is_step : DefT K mg "is_step" s_is_step ["day", "value"]
  d_fewest_steps : DefT K mg "fewest_steps" s_fewest_steps ["steps"]
  d_spans_under : DefT K mg "spans_under" s_spans_under ["day", "steps"]
  d_height_at : DefT K mg "height_at" s_height_at ["steps", "clock"]
  d_law_pen : DefT K mg "_law_pen" s_law_pen ["script"]
  d_law_draw : DefT K mg "_law_draw" s_law_draw ["pen", "many"]
  d_law_pick : DefT K mg "_law_pick" s_law_pick ["pen", "some"]
  d_law_integer : DefT K mg "_law_integer" s_law_integer ["pen"]
  d_law_drawn : DefT K mg "_law_drawn" s_law_drawn ["pen", "length"]
  d_law_fewest : DefT K mg "_law_fewest" s_law_fewest ["plain"]
  d_law_spans : DefT K mg "_law_spans" s_law_spans ["plain", "length"]
  d_law_at : DefT K mg "_law_at" s_law_at ["plain", "clock"]
  d_law_curve_right : DefT K mg "_law_curve_right" s_law_curve_right ["pen", "plain", "length"]
  d_law_equal_right : DefT K mg "_law_equal_right" s_law_equal_right ["pen", "plain", "length"]
  d_law : DefT K mg "law" s_law ["script"]
  C_Day : ClsT K mg "Day" ADay
  C_Curve : ClsT K mg "Curve" ACurve
  R_Day : RefC K ADay
  ne_Day : PySem.W.findIn K (.ref ADay) "__ne__" = some (some (.builtin "object.__ne__"))
  ob_Day : PySem.W.mroIn K ADay (.type "object") = some true
  I_Day : IsT K ADay
  na_Day_length : PySem.W.findIn K (.ref ADay) "length" = some none
  W_Day : OddK K ADay
  R_Curve : RefC K ACurve
  ne_Curve : PySem.W.findIn K (.ref ACurve) "__ne__" = some (some (.builtin "object.__ne__"))
  ob_Curve : PySem.W.mroIn K ACurve (.type "object") = some true
  I_Curve : IsT K ACurve
  W_Curve : OddK K ACurve
  na_Curve_day : PySem.W.findIn K (.ref ACurve) "day" = some none
  na_Curve_steps : PySem.W.findIn K (.ref ACurve) "steps" = some none
  na_Curve__spans : PySem.W.findIn K (.ref ACurve) "_spans" = some none
  nf_Curve_Curve : PySem.W.notFirst K ACurve (.ref ACurve) = true
  nf_Curve_tuple : PySem.W.notFirst K ACurve (.type "tuple") = true
  nf_Curve_list : PySem.W.notFirst K ACurve (.type "list") = true
  nf_Curve_NoneType : PySem.W.notFirst K ACurve (.type "NoneType") = true
  g_MOST : GlT mg "MOST" (.int 1000000000000)
  g_BEYOND_MOMENTS : GlT mg "BEYOND_MOMENTS" (.int (10 ^ 60))
  b_isinstance : mg "isinstance" = none
  b_int : mg "int" = none
  b_bool : mg "bool" = none
  b_list : mg "list" = none
  b_tuple : mg "tuple" = none
  b_len : mg "len" = none
  b_abs : mg "abs" = none
  b_range : mg "range" = none
  b_repr : mg "repr" = none
  b_str : mg "str" = none
  b_all : mg "all" = none
  b_min : mg "min" = none
  b_max : mg "max" = none
  b_zip : mg "zip" = none
  b_iter : mg "iter" = none

/-! ### days -/
def dayF (n : Int) : List (Str × V) := putF "length" (.int n) []
theorem dayF_len (n : Int) : (dayF n).lookup ("length" : Str) = some (.int n) := by
  unfold dayF
  rw [lookup_putF, if_pos rfl]
theorem dayF_no (n : Int) {m : Str} (h : ¬ m = "length") : (dayF n).lookup m = none := by
  unfold dayF
  rw [lookup_putF, if_neg h]
  all_goals rfl
def DayAt (C : Addr) (H : Hp) (a : Addr) (n : Int) : Prop := ∃ dx, H a = some (.ins C dx (dayF n))
theorem DayAt.but {C p a : Addr} {H H' : Hp} {n : Int} (d : DayAt C H a n) (b : But p H H') (ne : a ≠ p) : DayAt C H' a n := by
  obtain ⟨dx, h⟩ := d
  exact ⟨dx, b _ _ h ne⟩
theorem DayAt.same {C a : Addr} {H H' : Hp} {n : Int} (d : DayAt C H a n) (b : Same H H') : DayAt C H' a n := by
  obtain ⟨dx, h⟩ := d
  exact ⟨dx, b _ _ h⟩
/-! ### promises -/
def spIsInt (K : PySem.W.Frag) : Sp := fun vs H Q _ => ∃ v b, vs = [v] ∧ Knd K H v b ∧ Q (.bl b) H
def spNum1 (K : PySem.W.Frag) : Sp := fun vs H Q _ => ∃ v b, vs = [v] ∧ Knd K H v b ∧ Q (.bl (isNum1 v)) H
def spMom (K : PySem.W.Frag) : Sp := fun vs H Q _ => ∃ v b, vs = [v] ∧ Knd K H v b ∧ Q (.bl (isMom v)) H
def spDayInit (C : Addr) : Sp := fun vs H Q _ => ∃ p dx n, vs = [.ref p, .int n] ∧ H p = some (.ins C dx []) ∧ (1 ≤ n ∧ n ≤ 1000000000000) ∧ ∀ H', DayAt C H' p n → But p H H' → Q .non H'
def spDay (C : Addr) : Sp := fun vs H Q _ => ∃ n, vs = [.int n] ∧ (1 ≤ n ∧ n ≤ 1000000000000) ∧ ∀ q H', H q = none → Same H H' → DayAt C H' q n → Q (.ref q) H'
def spRmod (C : Addr) : Sp := fun vs H Q _ => ∃ p n x, vs = [.ref p, .int x] ∧ DayAt C H p n ∧ 0 < n ∧ (-(10 ^ 60) < x ∧ x < 10 ^ 60) ∧ Q (.int (x % n)) H
def spRfdiv (C : Addr) : Sp := fun vs H Q _ => ∃ p n x, vs = [.ref p, .int x] ∧ DayAt C H p n ∧ (0 < n ∧ n ≤ 1000000000000) ∧ (-(10 ^ 60) < x ∧ x < 10 ^ 60) ∧ Q (.int (x / n)) H
def spForward (C : Addr) : Sp := fun vs H Q _ => ∃ p n a b, vs = [.ref p, .int a, .int b] ∧ DayAt C H p n ∧ 0 < n ∧ (-(10 ^ 60) < a ∧ a < 10 ^ 60) ∧ (-(10 ^ 60) < b ∧ b < 10 ^ 60) ∧ Q (.int ((b - a) % n)) H
def spTimes (C : Addr) : Sp := fun vs H Q _ => ∃ p n k, vs = [.ref p, .int k] ∧ DayAt C H p n ∧ (1 ≤ n ∧ n ≤ 1000000000000) ∧ (1 ≤ n * k ∧ n * k ≤ 1000000000000) ∧ ∀ q H', H q = none → Same H H' → DayAt C H' q (n * k) → Q (.ref q) H'
/-- o == v: v another day, or a value of another kind -/
def spDayEq (K : PySem.W.Frag) (C : Addr) : Sp := fun vs H Q _ => ∃ a n v, vs = [.ref a, v] ∧ DayAt C H a n ∧ ((∃ b m, v = .ref b ∧ DayAt C H b m ∧ Q (.bl (decide (n = m))) H) ∨ (∃ t, TyX K H v t ∧ PySem.W.kitOne K t (.ref C) = some false ∧ Q (.bl false) H))
def spDayIn (K : PySem.W.Frag) (C : Addr) : Sp := fun vs H Q _ => ∃ a n v b, vs = [.ref a, v] ∧ DayAt C H a n ∧ Knd K H v b ∧ Q (.bl (inDay n v)) H
def spDayStr (C : Addr) : Sp := fun vs H Q _ => ∃ a n, vs = [.ref a] ∧ DayAt C H a n ∧ n.natAbs.log2 < 1920 ∧ Q (.str (toString n)) H
section
variable {P : Program} {w : World} {K : PySem.W.Frag} {mg : Str → Option Value} {base : Heap} {ADay ACurve : Addr}
theorem c_is_int (T : Txt K mg ADay ACurve) : CalF P w K mg base 1 "is_int" ["value"] (spIsInt K) := by
  refine T.d_is_int.ok sc_is_int (fun vs H Q E h => ?_) (fun f cdv A outer s H vs Q E hr h => ?_)
  · obtain ⟨v, b, rfl, _⟩ := h
    rfl
  · obtain ⟨v, b, rfl, hk, q⟩ := h
    refine ⟨_, (pss_one (ps_ret (pe_and (pe_callB call_isi (by rfl) T.b_isinstance (by decide +kernel) (pa_cons (pv 0) (pa_cons (pe_bltn (v := .ty "int") rfl T.b_int (by decide +kernel) rfl) pa_nil))) (pe_one (pe_not (pe_callB call_isi (by rfl) T.b_isinstance (by decide +kernel) (pa_cons (pv 0) (pa_cons (pe_bltn (v := .ty "bool") rfl T.b_bool (by decide +kernel) rfl) pa_nil)))))))), ?_⟩
    cases hk with
    | int n =>
      refine ⟨_, rfl, _, _, _, _, _, rfl, .ty _, .base (.int _), kit_ii, ?_⟩
      refine ⟨_, rfl, iteT ?_⟩
      refine ⟨_, rfl, _, _, _, _, _, rfl, .ty _, .base (.int _), kit_ib, ?_⟩
      exact ⟨_, rfl, q⟩
    | bl b =>
      refine ⟨_, rfl, _, _, _, _, _, rfl, .ty _, .base (.bl _), kit_bi, ?_⟩
      refine ⟨_, rfl, iteT ?_⟩
      refine ⟨_, rfl, _, _, _, _, _, rfl, .ty _, .base (.bl _), kit_self _, ?_⟩
      exact ⟨_, rfl, q⟩
    | oth ty n =>
      refine ⟨_, rfl, _, _, _, _, _, rfl, .ty _, ty, n, ?_⟩
      exact ⟨_, rfl, iteF q⟩
theorem c_is_number_from_one (T : Txt K mg ADay ACurve) : CalF P w K mg base 2 "is_number_from_one" ["value"] (spNum1 K) := by
  have c_is_int := c_is_int (P := P) (w := w) (base := base) T
  refine T.d_is_number_from_one.ok sc_is_number_from_one (fun vs H Q E h => ?_) (fun f cdv A outer s H vs Q E hr h => ?_)
  · obtain ⟨v, b, rfl, _⟩ := h
    rfl
  · obtain ⟨v, b, rfl, hk, q⟩ := h
    refine ⟨_, (pss_one (ps_ret (pe_and (pe_f c_is_int hr (pa_cons (pv 0) pa_nil)) (pe_one (pe_chain op_le op_le pe_int (pv 0) (pe_gl T.g_MOST) ))))), ?_⟩
    refine ⟨_, rfl, _, _, rfl, hk, ?_⟩
    cases b with
    | false =>
      rw [isNum1_no hk.noInt] at q
      exact ⟨_, rfl, iteF q⟩
    | true =>
      obtain ⟨n, rfl⟩ := hk.isInt
      refine ⟨_, rfl, iteT ?_⟩
      refine ⟨_, rfl, _, _, rfl, rfl, _, rfl, ?_⟩
      have q : Q (.bl (decide (1 ≤ n ∧ n ≤ 1000000000000))) H := q
      refine ite2 (fun h1 => ?_) (fun h1 => ?_)
      · rw [decide_eq_true_eq] at h1
        refine ⟨_, _, rfl, rfl, ?_⟩
        have e : decide (1 ≤ n ∧ n ≤ 1000000000000) = decide (n ≤ 1000000000000) := by simp [h1]
        rw [e] at q
        exact q
      · rw [decide_eq_true_eq] at h1
        have e : decide (1 ≤ n ∧ n ≤ 1000000000000) = false := by simp [h1]
        rw [e] at q
        exact q
theorem c_is_moment (T : Txt K mg ADay ACurve) : CalF P w K mg base 2 "is_moment" ["value"] (spMom K) := by
  have c_is_int := c_is_int (P := P) (w := w) (base := base) T
  refine T.d_is_moment.ok sc_is_moment (fun vs H Q E h => ?_) (fun f cdv A outer s H vs Q E hr h => ?_)
  · obtain ⟨v, b, rfl, _⟩ := h
    rfl
  · obtain ⟨v, b, rfl, hk, q⟩ := h
    refine ⟨_, (pss_one (ps_ret (pe_and (pe_f c_is_int hr (pa_cons (pv 0) pa_nil)) (pe_one (pe_chain op_lt op_lt (pe_un un_neg (pe_gl T.g_BEYOND_MOMENTS)) (pv 0) (pe_gl T.g_BEYOND_MOMENTS) ))))), ?_⟩
    refine ⟨_, rfl, _, _, rfl, hk, ?_⟩
    cases b with
    | false =>
      rw [isMom_no hk.noInt] at q
      exact ⟨_, rfl, iteF q⟩
    | true =>
      obtain ⟨n, rfl⟩ := hk.isInt
      refine ⟨_, rfl, iteT ?_⟩
      refine ⟨_, rfl, _, rfl, _, _, rfl, rfl, _, rfl, ?_⟩
      have q : Q (.bl (decide (-(10 ^ 60) < n ∧ n < 10 ^ 60))) H := q
      refine ite2 (fun h1 => ?_) (fun h1 => ?_)
      · rw [decide_eq_true_eq] at h1
        refine ⟨_, _, rfl, rfl, ?_⟩
        have e : decide (-(10 ^ 60) < n ∧ n < 10 ^ 60) = decide (n < 10 ^ 60) := by simp only [h1, true_and]
        rw [e] at q
        exact q
      · rw [decide_eq_true_eq] at h1
        have e : decide (-(10 ^ 60) < n ∧ n < 10 ^ 60) = false := by simp only [h1, false_and, decide_false]
        rw [e] at q
        exact q
theorem c_Day___init__ (T : Txt K mg ADay ACurve) : MetF P w K mg base 3 ADay "__init__" ["self", "length"] (spDayInit ADay) := by
  have c_is_number_from_one := c_is_number_from_one (P := P) (w := w) (base := base) T
  refine T.m_Day___init__.ok sc_Day___init__ (fun vs H Q E h => ?_) (fun f cdv A outer s H vs Q E hr h => ?_)
  · obtain ⟨p, dx, n, rfl, _⟩ := h
    rfl
  · obtain ⟨p, dx, n, rfl, hp, hn, k⟩ := h
    refine ⟨_, (pss_cons (ps_if (pt_not (pt_val (pe_f c_is_number_from_one hr (pa_cons (pv 1) pa_nil)))) (pss_one ps_never) pss_nil)
      (pss_one (ps_fld (pv 0) (pv 1) rfl))), ?_⟩
    refine ⟨_, rfl, _, _, rfl, .int n, _, rfl, ?_⟩
    refine iteNS hn ?_
    refine ⟨_, rfl, _, rfl, p, ADay, dx, [], rfl, hp, T.C_Day.cl, T.na_Day_length, (by show 0 < 1000; decide), ?_⟩
    exact k _ ⟨dx, upd_same⟩ But.upd
theorem c_Day___rmod__ (T : Txt K mg ADay ACurve) : MetF P w K mg base 3 ADay "__rmod__" ["self", "other"] (spRmod ADay) := by
  have c_is_moment := c_is_moment (P := P) (w := w) (base := base) T
  refine T.m_Day___rmod__.ok sc_Day___rmod__ (fun vs H Q E h => ?_) (fun f cdv A outer s H vs Q E hr h => ?_)
  · obtain ⟨p, n, x, rfl, _⟩ := h
    rfl
  · obtain ⟨p, n, x, rfl, ⟨dx, hd⟩, hn, hx, k⟩ := h
    refine ⟨_, (pss_cons (ps_if (pt_not (pt_val (pe_f c_is_moment hr (pa_cons (pv 1) pa_nil)))) (pss_one ps_never) pss_nil)
      (pss_one (ps_ret (pe_op op_mod (pv 1) (pe_fld (pv 0) rfl))))), ?_⟩
    refine ⟨_, rfl, _, _, rfl, .int x, _, rfl, ?_⟩
    refine iteNS hx ?_
    refine ⟨_, rfl, _, rfl, _, _, _, _, _, rfl, hd, T.C_Day.cl, T.na_Day_length, dayF_len _, ?_⟩
    exact ⟨_, _, rfl, rfl, hn, k⟩
theorem c_Day___rfloordiv__ (T : Txt K mg ADay ACurve) : MetF P w K mg base 3 ADay "__rfloordiv__" ["self", "other"] (spRfdiv ADay) := by
  have c_is_moment := c_is_moment (P := P) (w := w) (base := base) T
  refine T.m_Day___rfloordiv__.ok sc_Day___rfloordiv__ (fun vs H Q E h => ?_) (fun f cdv A outer s H vs Q E hr h => ?_)
  · obtain ⟨p, n, x, rfl, _⟩ := h
    rfl
  · obtain ⟨p, n, x, rfl, ⟨dx, hd⟩, hn, hx, k⟩ := h
    refine ⟨_, (pss_cons (ps_if (pt_not (pt_val (pe_f c_is_moment hr (pa_cons (pv 1) pa_nil)))) (pss_one ps_never) pss_nil)
      (pss_one (ps_ret (pe_op op_fdivW (pv 1) (pe_fld (pv 0) rfl))))), ?_⟩
    refine ⟨_, rfl, _, _, rfl, .int x, _, rfl, ?_⟩
    refine iteNS hx ?_
    refine ⟨_, rfl, _, rfl, _, _, _, _, _, rfl, hd, T.C_Day.cl, T.na_Day_length, dayF_len _, ?_⟩
    exact ⟨_, _, rfl, rfl, wide_div (b := 41) hn.1 (by omega) (by decide) (by decide), k⟩
theorem n_Day (T : Txt K mg ADay ACurve) : NewF P w K mg base 3 "Day" ADay ["self", "length"] (spDay ADay) := by
  refine ⟨_, c_Day___init__ T, T.C_Day, fun vs H Q h p dx np nd ne => ?_⟩
  obtain ⟨n, rfl, hn, k⟩ := h
  refine ⟨p, dx, n, rfl, upd_same, hn, fun H' d b => ⟨rfl, k p H' np (fun c o e => ?_) d⟩⟩
  refine b c o ?_ (ne_of_none e np)
  rw [upd_ne (ne_of_none e np), upd_ne (ne_of_none e nd)]
  exact e
theorem c_Day___eq__ (T : Txt K mg ADay ACurve) : MetF P w K mg base 1 ADay "__eq__" ["self", "other"] (spDayEq K ADay) := by
  refine T.m_Day___eq__.ok sc_Day___eq__ (fun vs H Q E h => ?_) (fun f cdv A outer s H vs Q E hr h => ?_)
  · obtain ⟨a, n, v, rfl, _⟩ := h
    rfl
  · obtain ⟨a, n, v, rfl, ⟨dx, ha⟩, q⟩ := h
    refine ⟨_, (pss_one (ps_ret (pe_and (pe_callB call_isi (by rfl) T.b_isinstance (by decide +kernel) (pa_cons (pv 1) (pa_cons (pe_glob (v := .ref ADay) rfl T.C_Day.mgC rfl) pa_nil))) (pe_one (pe_cmpR op_eqi (pe_fld (pv 0) rfl) (pe_fld (pv 1) rfl) (nomark _)))))), ?_⟩
    rcases q with ⟨b, m, rfl, ⟨dy, hb⟩, q⟩ | ⟨t, ty, no, q⟩
    · refine ⟨_, rfl, _, _, _, _, _, rfl, .own _, .base (.ins hb T.C_Day.cl T.I_Day.ha T.I_Day.hn T.I_Day.htk T.I_Day.hm), kit_self _, ?_⟩
      refine ⟨_, rfl, iteT ?_⟩
      refine ⟨_, rfl, _, _, _, _, _, rfl, ha, T.C_Day.cl, T.na_Day_length, dayF_len _, ?_⟩
      refine ⟨_, rfl, _, _, _, _, _, rfl, hb, T.C_Day.cl, T.na_Day_length, dayF_len _, ?_⟩
      exact ⟨_, _, rfl, rfl, q⟩
    · refine ⟨_, rfl, _, _, _, _, _, rfl, .own _, ty, no, ?_⟩
      exact ⟨_, rfl, iteF q⟩
theorem c_Day___contains__ (T : Txt K mg ADay ACurve) : MetF P w K mg base 2 ADay "__contains__" ["self", "x"] (spDayIn K ADay) := by
  have c_is_int := c_is_int (P := P) (w := w) (base := base) T
  refine T.m_Day___contains__.ok sc_Day___contains__ (fun vs H Q E h => ?_) (fun f cdv A outer s H vs Q E hr h => ?_)
  · obtain ⟨a, n, v, b, rfl, _⟩ := h
    rfl
  · obtain ⟨a, n, v, b, rfl, ⟨dx, ha⟩, hk, q⟩ := h
    refine ⟨_, (pss_one (ps_ret (pe_and (pe_f c_is_int hr (pa_cons (pv 1) pa_nil)) (pe_one (pe_chain op_le op_lt pe_int (pv 1) (pe_fld (pv 0) rfl) ))))), ?_⟩
    refine ⟨_, rfl, _, _, rfl, hk, ?_⟩
    cases b with
    | false =>
      rw [inDay_no hk.noInt] at q
      exact ⟨_, rfl, iteF q⟩
    | true =>
      obtain ⟨x, rfl⟩ := hk.isInt
      refine ⟨_, rfl, iteT ?_⟩
      refine ⟨_, rfl, _, _, rfl, rfl, _, rfl, ?_⟩
      have q : Q (.bl (decide (0 ≤ x ∧ x < n))) H := q
      refine ite2 (fun h1 => ?_) (fun h1 => ?_)
      · rw [decide_eq_true_eq] at h1
        refine ⟨_, rfl, _, _, _, _, _, rfl, ha, T.C_Day.cl, T.na_Day_length, dayF_len _, _, _, rfl, rfl, ?_⟩
        have e : decide (0 ≤ x ∧ x < n) = decide (x < n) := by simp [h1]
        rw [e] at q
        exact q
      · rw [decide_eq_true_eq] at h1
        have e : decide (0 ≤ x ∧ x < n) = false := by simp [h1]
        rw [e] at q
        exact q
theorem c_Day___str__ (T : Txt K mg ADay ACurve) : MetF P w K mg base 1 ADay "__str__" ["self"] (spDayStr ADay) := by
  refine T.m_Day___str__.ok sc_Day___str__ (fun vs H Q E h => ?_) (fun f cdv A outer s H vs Q E hr h => ?_)
  · obtain ⟨a, n, rfl, _⟩ := h
    rfl
  · obtain ⟨a, n, rfl, ⟨dx, ha⟩, hn, q⟩ := h
    refine ⟨_, (pss_one (ps_ret (pe_callTy call_str_int (by rfl) T.b_str (by decide +kernel) (pa_cons (pe_fld (pv 0) rfl) pa_nil)))), ?_⟩
    exact ⟨_, rfl, _, _, _, _, _, rfl, ha, T.C_Day.cl, T.na_Day_length, dayF_len _, n, rfl, hn, q⟩
end

/-! ### steps by forms -/
local macro_rules | `(tactic| walk_at "g1") => `(tactic| first
  | with_reducible refine s_seq ?_
  | with_reducible refine s_ret ?_
  | with_reducible refine s_next ?_
  | with_reducible refine s_set (te := tC1 _ _) ?_
  | with_reducible refine s_set (te := tOp _ _ _) ?_
  | with_reducible refine s_set (te := tC _) ?_
  | with_reducible refine s_set (te := tVar _) ?_
  | with_reducible refine s_set (te := tNew _ _) ?_
  | with_reducible refine s_set (te := tNewK _ _ _ _) ?_
  | with_reducible refine s_set (te := tFld _ _ _) ?_
  | with_reducible refine s_set (te := tIf _ _ _) ?_
  | with_reducible refine s_set (te := OL.tM1 _ _ _ _) ?_
  | with_reducible refine s_set (te := tUn _ _) ?_
  | with_reducible refine s_set (te := tAndV _ _) ?_
  | with_reducible refine s_set (te := tOrV _ _) ?_
  | with_reducible refine s_set (te := tNotV _) ?_
  | ((with_reducible refine' g_var ?h ?_); (case h => rfl))
  | with_reducible refine g_c ?_
  | with_reducible refine ga_cons ?_
  | with_reducible refine ga_nil ?_
  | ((with_reducible refine' g_p wk_pick ?h ?_); (case h => rfl))
  | ((with_reducible refine' g_p wk_draw ?h ?_); (case h => rfl))
  | ((with_reducible refine' g_p WkP.rfl' ?h ?_); (case h => rfl))
  | with_reducible refine g_f WkF.rfl' ?_
  | ((with_reducible refine' g_ixOwn ?h ?_); (case h => rfl))
  | ((with_reducible refine' g_lenOwn ?h ?_); (case h => rfl))
  | with_reducible refine g_fld ?_
  | with_reducible refine g_chain ?_
  | with_reducible refine g_op ?_
  | with_reducible refine g_un ?_
  | with_reducible refine g_cb ?_
  | with_reducible refine o2_i0 ?_
  | with_reducible refine o1_i ?_
  | ((with_reducible refine o2_i ?h ?_); (case h => first | decide | exact ⟨by decide, by decide, by decide⟩))
  | with_reducible refine o2_eq rfl ?_
  | with_reducible refine o2_ne rfl ?_
  | with_reducible refine g_tup ?_
  | with_reducible refine g_lst ?_
  | with_reducible refine t_test ?_
  | with_reducible refine t_B ?_
  | with_reducible refine t_not ?_
  | with_reducible refine t_and ?_
  | with_reducible refine t_or ?_
  | with_reducible refine s_if ?_
  | with_reducible refine g_if ?_
  | with_reducible refine g_and ?_
  | with_reducible refine g_or ?_
  | with_reducible refine g_not ?_
  | with_reducible refine ⟨(by simp only [List.length_cons, List.length_nil]; decide : List.length _ ≤ 1000000), ?_⟩
  | refine ⟨_, rfl, ?_⟩
  | refine ⟨_, ‹Fld _ _ _ _›, ?_⟩)
local macro_rules | `(tactic| walk_at "gs") => `(tactic| repeat (walk_at "g1"))
local macro_rules | `(tactic| walk_at "e1") => `(tactic| first
  | ((with_reducible refine' g_var ?h ?_); (case h => rfl))
  | with_reducible refine g_c ?_
  | with_reducible refine ga_cons ?_
  | with_reducible refine ga_nil ?_
  | ((with_reducible refine' g_p wk_pick ?h ?_); (case h => rfl))
  | ((with_reducible refine' g_p wk_draw ?h ?_); (case h => rfl))
  | ((with_reducible refine' g_p WkP.rfl' ?h ?_); (case h => rfl))
  | with_reducible refine g_f WkF.rfl' ?_
  | ((with_reducible refine' g_ixOwn ?h ?_); (case h => rfl))
  | ((with_reducible refine' g_lenOwn ?h ?_); (case h => rfl))
  | with_reducible refine g_fld ?_
  | with_reducible refine g_chain ?_
  | with_reducible refine g_op ?_
  | with_reducible refine g_un ?_
  | with_reducible refine g_cb ?_
  | with_reducible refine o2_i0 ?_
  | with_reducible refine o1_i ?_
  | ((with_reducible refine o2_i ?h ?_); (case h => first | decide | exact ⟨by decide, by decide, by decide⟩))
  | with_reducible refine o2_eq rfl ?_
  | with_reducible refine o2_ne rfl ?_
  | with_reducible refine g_tup ?_
  | with_reducible refine g_lst ?_
  | with_reducible refine t_test ?_
  | with_reducible refine t_B ?_
  | with_reducible refine t_not ?_
  | with_reducible refine g_not ?_
  | with_reducible refine ⟨(by simp only [List.length_cons, List.length_nil]; decide : List.length _ ≤ 1000000), ?_⟩
  | refine ⟨_, rfl, ?_⟩
  | refine ⟨_, ‹Fld _ _ _ _›, ?_⟩)
local macro_rules | `(tactic| walk_at "ge") => `(tactic| repeat (walk_at "e1"))

/-! ### the pen -/
section
variable {P : Program} {w : World} {K : PySem.W.Frag} {mg : Str → Option Value} {base : Heap} {ADay ACurve : Addr}
theorem c_law_pen (T : Txt K mg ADay ACurve) : CalF P w K mg base 1 "_law_pen" ["script"] (spPen K) := by
  refine T.d_law_pen.ok sc_law_pen (fun vs H Q E h => ?_) (fun f cdv A outer s H vs Q E hr h => ?_)
  · obtain ⟨a, ns, rfl, _⟩ := h
    rfl
  · obtain ⟨a, ns, rfl, hs, hn, k⟩ := h
    refine ⟨_, (pss_one (ps_ret (pe_lst (pa_cons (pe_callTy call_list_of (by rfl) T.b_list (by decide +kernel) (pa_cons (pe_slice sl_list (pv 0) po_none (po_some pe_int)) pa_nil)) (pa_cons pe_int (pa_cons pe_int pa_nil)))))), ?_⟩
    refine ⟨_, rfl, _, rfl, _, _, rfl, hs, fun p1 n1 => ?_⟩
    have ec : ∃ ms : List Int, cutV (ns.map V.int) none (some 63) = ms.map V.int ∧ ms.length ≤ ns.length := by
      refine ⟨(ns.drop (HT.sIx (ns.map V.int).length 0 none)).take (HT.sIx (ns.map V.int).length (ns.map V.int).length (some 63) - HT.sIx (ns.map V.int).length 0 none), ?_, ?_⟩
      · unfold cutV
        rw [List.map_take, List.map_drop]
      · rw [List.length_take, List.length_drop]
        omega
    obtain ⟨ms, e1, e2⟩ := ec
    rw [e1]
    refine ⟨p1, _, rfl, .inl (SqL.of upd_same), fun l nl => ?_⟩
    refine ⟨(by show 3 ≤ sizeLine; decide), fun p np => ?_⟩
    have s1 : Same H (upd H p1 (.lst (ms.map V.int))) := fun b o e => by rw [upd_ne (ne_of_none e n1)]; exact e
    have s2 : Same (upd H p1 (.lst (ms.map V.int))) (upd (upd H p1 (.lst (ms.map V.int))) l (.lst (ms.map V.int))) := fun b o e => by rw [upd_ne (ne_of_none e nl)]; exact e
    have s3 := s1.trans s2
    have s4 : Same H (upd (upd (upd H p1 (.lst (ms.map V.int))) l (.lst (ms.map V.int))) p (.lst [.ref l, .int 0, .int 0])) := s3.trans fun b o e => by rw [upd_ne (ne_of_none e np)]; exact e
    refine k p l ms _ (s3.free np) s4 ⟨0, 0, upd_same, ?_, by omega, by omega, by omega, by omega⟩
    rw [upd_ne (ne_of_none upd_same np), upd_same]
theorem c_law_draw (T : Txt K mg ADay ACurve) : CalF P w K mg base 1 "_law_draw" ["pen", "many"] spDraw := by
  refine T.d_law_draw.ok sc_law_draw (fun vs H Q E h => ?_) (fun f cdv A outer s H vs Q E hr h => ?_)
  · obtain ⟨p, l, ns, b, many, rfl, _⟩ := h
    rfl
  · obtain ⟨p, l, ns, b, many, rfl, hP, hb, hm, k⟩ := h
    have nlp := hP.ne
    obtain ⟨spot, left, hp, hl, h0, h1, h2, h3⟩ := hP
    have hdiv : ∀ x : Int, CDivW x many := fun x => wide_div (b := 200) hm.1 (by omega) (by decide) (by decide)
    refine ⟨_, (pss_cons (ps_if (pt_cmpR op_gt (pe_ix ix_list (pv 0) pe_int (fun _ _ => rfl)) pe_int (nomark _)) (pss_cons (ps_set (i := 2) sc_law_draw.nd rfl (Or.inl rfl) (pe_op op_mod (pe_callTy call_int1 (by rfl) T.b_int (by decide +kernel) (pa_cons (pe_ix ix_list (pv 0) pe_int (fun _ _ => rfl)) pa_nil)) (pv 1)))
      (pss_cons (ps_asg (pe_op op_fdivW (pe_callTy call_int1 (by rfl) T.b_int (by decide +kernel) (pa_cons (pe_ix ix_list (pv 0) pe_int (fun _ _ => rfl)) pa_nil)) (pv 1)) (pg_sub (pv 0) pe_int set_list))
      (pss_one (ps_ret (pv 2))))) pss_nil)
      (pss_cons (ps_set (i := 3) sc_law_draw.nd rfl (Or.inl rfl) (pe_ix ix_list (pv 0) pe_int (fun _ _ => rfl)))
      (pss_cons (ps_asg (pe_op op_add (pv 3) pe_int) (pg_sub (pv 0) pe_int set_list))
      (pss_cons (ps_set (i := 4) sc_law_draw.nd rfl (Or.inl rfl) (pe_op op_add (pe_op op_mul pe_int (pv 3)) pe_int))
      (C8.pss_cut (ps_if (pt_cmpR (op_neD hr.units) (pe_ix ix_list (pv 0) pe_int (fun _ _ => rfl)) (pe_lst pa_nil) (nomark _)) (pss_one (ps_set (i := 4) sc_law_draw.nd rfl (Or.inl rfl) (pe_ix ix_list (pe_ix ix_list (pv 0) pe_int (fun _ _ => rfl)) (pe_op op_mod (pe_callTy call_int1 (by rfl) T.b_int (by decide +kernel) (pa_cons (pv 3) pa_nil)) (pe_callB call_len_seq (by rfl) T.b_len (by decide +kernel) (pa_cons (pe_ix ix_list (pv 0) pe_int (fun _ _ => rfl)) pa_nil))) (fun _ _ => rfl)))) pss_nil)
      (C8.pss_cut (ps_if (PW.pt (pw_and (pt_cmpR op_lt (pv 3) (pe_callB call_len_seq (by rfl) T.b_len (by decide +kernel) (pa_cons (pe_ix ix_list (pv 0) pe_int (fun _ _ => rfl)) pa_nil)) (nomark _)) (pw_and1 (pt_cmpR op_ge (pe_callB call_abs (by rfl) T.b_abs (by decide +kernel) (pa_cons (pv 4) pa_nil)) (pe_op op_pow pe_int pe_int) (nomark _))))) (pss_cons (ps_set (i := 5) sc_law_draw.nd rfl (Or.inl rfl) (pe_op op_add (pe_op op_mul pe_int (pe_op op_sub (pe_callB call_abs (by rfl) T.b_abs (by decide +kernel) (pa_cons (pv 4) pa_nil)) (pe_op op_pow pe_int pe_int))) (pe_callTy call_int1 (by rfl) T.b_int (by decide +kernel) (pa_cons (pe_cmpR op_lt (pv 4) pe_int (nomark _)) pa_nil))))
      (pss_cons (ps_asg (pe_op op_fdivW (pe_callTy call_int1 (by rfl) T.b_int (by decide +kernel) (pa_cons (pv 5) pa_nil)) (pv 1)) (pg_sub (pv 0) pe_int set_list))
      (pss_one (ps_ret (pe_op op_mod (pe_callTy call_int1 (by rfl) T.b_int (by decide +kernel) (pa_cons (pv 5) pa_nil)) (pv 1)))))) pss_nil)
      (pss_cons (ps_set (i := 6) sc_law_draw.nd rfl (Or.inl rfl) (pe_op op_mod (pe_callTy call_int1 (by rfl) T.b_int (by decide +kernel) (pa_cons (pe_op op_pow (pe_op op_add (pe_op op_add (pe_op op_mod (pe_callTy call_int1 (by rfl) T.b_int (by decide +kernel) (pa_cons (pv 4) pa_nil)) pe_int) (pe_op op_mul pe_int (pv 3))) pe_int) pe_int) pa_nil)) pe_int))
      (pss_cons (ps_set (i := 6) sc_law_draw.nd rfl (Or.inl rfl) (pe_op op_mod (pe_callTy call_int1 (by rfl) T.b_int (by decide +kernel) (pa_cons (pe_op op_pow (pe_op op_add (pe_op op_add (pe_op op_mul (pv 6) (pe_op op_add (pe_op op_mul pe_int (pv 3)) pe_int)) (pe_op op_mul (pe_op op_mul pe_int (pv 3)) (pv 3))) pe_int) pe_int) pa_nil)) pe_int))
      (pss_one (ps_ret (pe_op op_mod (pe_callTy call_int1 (by rfl) T.b_int (by decide +kernel) (pa_cons (pe_op op_fdiv (pv 6) pe_int) pa_nil)) (pv 1)))))))))))), ?_⟩
    refine ⟨_, rfl, p, _, 2, _, rfl, rfl, SqL.of hp, rfl, _, _, rfl, rfl, _, rfl, ?_⟩
    refine ite2 (fun c => ?_) (fun c => ?_)
    · rw [decide_eq_true_eq] at c
      refine ⟨_, rfl, p, _, 2, _, rfl, rfl, SqL.of hp, rfl, .inl ⟨_, rfl, _, rfl, _, _, rfl, rfl, hm.1, ?_⟩⟩
      refine ⟨_, rfl, p, _, 2, _, rfl, rfl, SqL.of hp, rfl, .inl ⟨_, rfl, _, rfl, _, _, rfl, rfl, hdiv _, ?_⟩⟩
      refine ⟨_, rfl, p, _, 2, 2, rfl, rfl, hp, rfl, ?_⟩
      refine ⟨_, rfl, ?_⟩
      refine k _ _ ⟨Int.emod_nonneg _ (by omega), Int.emod_lt_of_pos _ hm.1⟩ ⟨spot, left / many, upd_same, ?_, h0, by omega, Int.ediv_nonneg h2 (by omega), h3⟩ But.upd
      rw [upd_ne nlp]
      exact hl
    · refine ⟨_, rfl, p, _, 1, _, rfl, rfl, SqL.of hp, rfl, ?_⟩
      refine ⟨_, rfl, _, _, rfl, rfl, _, rfl, p, _, 1, 1, rfl, rfl, hp, rfl, ?_⟩
      have hp1 : (upd H p (.lst [.ref l, .int (spot + 1), .int left])) p = some (.lst [.ref l, .int (spot + 1), .int left]) := upd_same
      have hl1 : (upd H p (.lst [.ref l, .int (spot + 1), .int left])) l = some (.lst (ns.map V.int)) := by rw [upd_ne nlp]; exact hl
      have hB1 : But p H (upd H p (.lst [.ref l, .int (spot + 1), .int left])) := But.upd
      refine ⟨_, rfl, _, _, rfl, rfl, .inl ⟨by decide, by decide⟩, _, _, rfl, rfl, ?_⟩
      refine ⟨fun σ H2 => ∃ c : Int, σ = [some (.ref p), some (.int many), none, some (.int spot), some (.int c), none, none] ∧ H2 p = some (.lst [.ref l, .int (spot + 1), .int left]) ∧ H2 l = some (.lst (ns.map V.int)) ∧ But p H H2, ?_, ?_⟩
      · refine ⟨_, rfl, p, _, 0, _, rfl, rfl, SqL.of hp1, rfl, (by show 0 ≤ sizeLine; decide), fun q nq => ?_⟩
        have hp2 : (upd (upd H p (.lst [.ref l, .int (spot + 1), .int left])) q (.lst [])) p = some (.lst [.ref l, .int (spot + 1), .int left]) := (upd_ne (ne_of_none hp1 nq)).trans hp1
        have hl2 : (upd (upd H p (.lst [.ref l, .int (spot + 1), .int left])) q (.lst [])) l = some (.lst (ns.map V.int)) := (upd_ne (ne_of_none hl1 nq)).trans hl1
        have hB2 : But p H (upd (upd H p (.lst [.ref l, .int (spot + 1), .int left])) q (.lst [])) := hB1.trans (But.new nq)
        refine ⟨.list (ns.map PyData.int), .list [], .lst (SqL.of hl2) (dp_ints ns), .lst (SqL.of upd_same) .nil, shaped_ints ns, by decide, ?_⟩
        rw [eqv_nil]
        refine ⟨_, rfl, ?_⟩
        cases he : ns.isEmpty with
        | true => exact iteF ⟨_, rfl, hp2, hl2, hB2⟩
        | false =>
          refine iteT ?_
          have hlen : 0 < (ns.map V.int).length := by
            cases ns with
            | nil => cases he
            | cons a r => simp
          refine ⟨_, rfl, p, _, 0, _, rfl, rfl, SqL.of hp2, rfl, ?_⟩
          refine ⟨_, rfl, .inl ⟨_, rfl, _, rfl, p, _, 0, _, rfl, rfl, SqL.of hp2, rfl, l, _, rfl, .inl (SqL.of hl2), _, _, rfl, rfl, (by show (0 : Int) < _; omega), ?_⟩⟩
          obtain ⟨c, hc⟩ := at_ex (ns := ns) (i := spot % ((ns.map V.int).length : Int)) (Int.emod_nonneg _ (by omega)) (Int.emod_lt_of_pos _ (by omega))
          exact ⟨l, _, _, _, rfl, rfl, SqL.of hl2, hc, c, rfl, hp2, hl2, hB2⟩
      · rintro σ H2 ⟨c, rfl, hp2, hl2, hB2⟩
        have small : 0 ≤ c % 2147483497 + 77322 * spot + 4134 ∧ c % 2147483497 + 77322 * spot + 4134 < 2 ^ 60 := by omega
        refine ⟨fun σ H3 => σ = [some (.ref p), some (.int many), none, some (.int spot), some (.int c), none, none] ∧ H3 = H2, ?_, ?_⟩
        · refine ⟨_, rfl, _, rfl, p, _, 0, _, rfl, rfl, SqL.of hp2, rfl, l, _, rfl, .inl (SqL.of hl2), _, _, rfl, rfl, _, rfl, ?_⟩
          refine ite2 (fun c1 => ?_) (fun c1 => iteF ⟨rfl, rfl⟩)
          refine ⟨_, rfl, _, rfl, _, _, rfl, rfl, ⟨by decide, by decide, by decide⟩, _, _, rfl, rfl, _, rfl, ?_⟩
          refine ite2 (fun c2 => ?_) (fun c2 => ⟨rfl, rfl⟩)
          rw [decide_eq_true_eq] at c2
          refine ⟨_, rfl, _, rfl, _, _, rfl, rfl, ⟨by decide, by decide, by decide⟩, _, _, rfl, rfl, _, _, rfl, rfl, .inl ⟨by decide, by decide⟩, ?_⟩
          refine ⟨_, rfl, _, _, rfl, rfl, .inr ⟨_, rfl, _, _, rfl, rfl, ?_⟩⟩
          refine ⟨_, rfl, .inl ⟨_, rfl, _, rfl, _, _, rfl, rfl, hdiv _, _, rfl, p, _, 2, 2, rfl, rfl, hp2, rfl, ?_⟩⟩
          refine ⟨_, rfl, .inl ⟨_, rfl, _, rfl, _, _, rfl, rfl, hm.1, ?_⟩⟩
          refine k _ _ ⟨Int.emod_nonneg _ (by omega), Int.emod_lt_of_pos _ hm.1⟩ ⟨spot + 1, _, upd_same, ?_, by omega, by omega, Int.ediv_nonneg ?_ (by omega), h3⟩ (hB2.trans But.upd)
          · rw [upd_ne nlp]
            exact hl2
          · have e18 : (10 : Int) ^ Int.toNat 18 = 1000000000000000000 := by decide
            rw [e18] at c2 ⊢
            split at c2 <;> split <;> omega
        · rintro σ H3 ⟨rfl, rfl⟩
          refine ⟨_, rfl, .inl ⟨_, rfl, _, _, rfl, rfl, (by show (0 : Int) < 2147483497; decide), ?_⟩⟩
          refine ⟨_, rfl, _, _, rfl, rfl, .inl ⟨by decide, by decide⟩, _, _, rfl, rfl, _, _, rfl, rfl, _, _, rfl, rfl, ⟨by decide, by decide, by omega⟩, .inl ⟨_, rfl, _, _, rfl, rfl, (by show (0 : Int) < 2147483423; decide), ?_⟩⟩
          have hz0 : 0 ≤ (c % 2147483497 + 77322 * spot + 4134) ^ Int.toNat 5 % 2147483423 ∧ (c % 2147483497 + 77322 * spot + 4134) ^ Int.toNat 5 % 2147483423 ≤ 2147483700 :=
            ⟨Int.emod_nonneg _ (by decide), by have := Int.emod_lt_of_pos ((c % 2147483497 + 77322 * spot + 4134) ^ Int.toNat 5) (b := 2147483423) (by decide); omega⟩
          have hu := mul_bnd (b := 2 * spot + 257) (A := 2147483700) (B := 2001000) hz0 ⟨by omega, by omega⟩
          have hs := mul_bnd (a := 97248 * spot) (b := spot) (A := 100000000000) (B := 1000000) ⟨by omega, by omega⟩ ⟨by omega, by omega⟩
          refine ⟨_, rfl, _, rfl, _, _, rfl, rfl, .inl ⟨by decide, by decide⟩, _, _, rfl, rfl, _, _, rfl, rfl, .inl ⟨by omega, by omega⟩, ?_⟩
          refine ⟨_, rfl, _, _, rfl, rfl, .inl ⟨by decide, by decide⟩, _, rfl, _, _, rfl, rfl, .inl ⟨by omega, by omega⟩, ?_⟩
          refine ⟨_, _, rfl, rfl, _, _, rfl, rfl, _, _, rfl, rfl, ⟨by decide, by decide, by omega⟩, .inl ⟨_, rfl, _, _, rfl, rfl, (by show (0 : Int) < 2147483497; decide), ?_⟩⟩
          refine ⟨_, rfl, _, _, rfl, rfl, ⟨by decide, by decide⟩, .inl ⟨_, rfl, _, rfl, _, _, rfl, rfl, hm.1, ?_⟩⟩
          exact k _ H3 ⟨Int.emod_nonneg _ (by omega), Int.emod_lt_of_pos _ hm.1⟩ ⟨spot + 1, left, hp2, hl2, by omega, by omega, h2, h3⟩ hB2
theorem c_law_pick (T : Txt K mg ADay ACurve) : CalF P w K mg base 2 "_law_pick" ["pen", "some"] (spPick K) := by
  have c_law_draw := c_law_draw (P := P) (w := w) (base := base) T
  refine T.d_law_pick.ok sc_law_pick (fun vs H Q E h => ?_) (fun f cdv A outer s H vs Q E hr h => ?_)
  · obtain ⟨p, l, ns, b, q, xs, rfl, _⟩ := h
    rfl
  · obtain ⟨p, l, ns, b, q, xs, rfl, hP, hb, hq, hne, hx, k⟩ := h
    refine ⟨_, (pss_one (ps_ret (pe_ix ix_list (pv 1) (pe_f c_law_draw hr (pa_cons (pv 0) (pa_cons (pe_callB call_len_seq (by rfl) T.b_len (by decide +kernel) (pa_cons (pv 1) pa_nil)) pa_nil))) (fun _ _ => rfl)))), ?_⟩
    refine ⟨_, rfl, _, rfl, _, rfl, q, _, rfl, .inl hq, p, l, ns, b, _, rfl, hP, hb, ⟨by omega, by omega⟩, fun n H' hn hP' hB => ?_⟩
    obtain ⟨v, hv, e⟩ := at_ex' hn.1 hn.2
    exact ⟨q, _, _, v, rfl, rfl, hq.but hB hne, e, k v H' hv hP' hB⟩
end

/-! ### curves -/
structure StepsOk (n : Int) (ps : List (Int × Int)) : Prop where
  ne : 0 < ps.length
  z : ∀ x, ps[0]? = some x → x.1 = 0
  asc : ∀ (i : Nat) x y, ps[i]? = some x → ps[i + 1]? = some y → x.1 < y.1
  inn : ∀ x ∈ ps, 0 ≤ x.1 ∧ x.1 < n
def spIsStep (C : Addr) : Sp := fun vs H Q _ => ∃ d q n a b, vs = [.ref d, .ref q] ∧ DayAt C H d n ∧ H q = some (.tup [.int a, .int b]) ∧ (0 ≤ a ∧ a < n) ∧ Q (.bl true) H
section
variable {P : Program} {w : World} {K : PySem.W.Frag} {mg : Str → Option Value} {base : Heap} {ADay ACurve : Addr}
theorem c_is_step (T : Txt K mg ADay ACurve) : CalF P w K mg base 3 "is_step" ["day", "value"] (spIsStep ADay) := by
  have c_is_int := c_is_int (P := P) (w := w) (base := base) T
  have c_Day___contains__ := c_Day___contains__ (P := P) (w := w) (base := base) T
  refine T.d_is_step.ok sc_is_step (fun vs H Q E h => ?_) (fun f cdv A outer s H vs Q E hr h => ?_)
  · obtain ⟨d, q, n, a, b, rfl, _⟩ := h
    rfl
  · obtain ⟨d, q, n, a, b, rfl, hD, hq, ha, k⟩ := h
    obtain ⟨dx, hd⟩ := id hD
    refine ⟨_, (pss_one (ps_ret (pe_and (pe_callB call_isi (by rfl) T.b_isinstance (by decide +kernel) (pa_cons (pv 1) (pa_cons (pe_bltn (v := .ty "tuple") rfl T.b_tuple (by decide +kernel) rfl) pa_nil))) (pe_and (pe_cmpR op_eqi (pe_callB call_len (by rfl) T.b_len (by decide +kernel) (pa_cons (pv 1) pa_nil)) pe_int (nomark _)) (pe_and (pe_cmpR (ow_in c_Day___contains__ hr) (pe_ix ix_tup (pv 1) pe_int (fun _ _ => rfl)) (pv 0) (by rfl)) (pe_one (pe_f c_is_int hr (pa_cons (pe_ix ix_tup (pv 1) pe_int (fun _ _ => rfl)) pa_nil)))))))), ?_⟩
    refine ⟨_, rfl, _, _, _, _, _, rfl, .ty _, .base (.tup hq), kit_self _, ?_⟩
    refine ⟨_, rfl, iteT ?_⟩
    refine ⟨_, rfl, _, _, rfl, .inr ⟨_, SqT.of hq, rfl⟩, ?_⟩
    refine ⟨_, _, rfl, rfl, _, rfl, iteD rfl ?_⟩
    refine ⟨_, rfl, q, _, 0, _, rfl, rfl, SqT.of hq, rfl, _, rfl, d, dx, _, rfl, hd, d, n, _, true, rfl, hD, .int a, _, rfl, _, rfl, iteN (decide_eq_true ha) ?_⟩
    exact ⟨_, rfl, q, _, 1, _, rfl, rfl, SqT.of hq, rfl, _, _, rfl, .int b, k⟩
def spAre (C : Addr) : Sp := fun vs H Q _ => ∃ d a n ps, vs = [.ref d, .ref a] ∧ DayAt C H d n ∧ (LP H a ps ∨ TP H a ps) ∧ StepsOk n ps ∧ ps.length ≤ 100 ∧ ∀ H', Same H H' → Q (.bl true) H'
theorem kit_any_lst {K : PySem.W.Frag} : PySem.W.kitAny K (.type "list") [.type "list", .type "tuple"] = some true := by
  unfold PySem.W.kitAny
  rw [kit_self]
theorem kit_any_tup {K : PySem.W.Frag} : PySem.W.kitAny K (.type "tuple") [.type "list", .type "tuple"] = some true := by
  unfold PySem.W.kitAny
  rw [kit_ty (a := "tuple") (b := "list") (r := false) (by decide +kernel)]
  show PySem.W.kitAny K (.type "tuple") [.type "tuple"] = some true
  unfold PySem.W.kitAny
  rw [kit_self]
theorem c_are_steps (T : Txt K mg ADay ACurve) : CalF P w K mg base 4 "are_steps" ["day", "value"] (spAre ADay) := by
  have c_is_step := c_is_step (P := P) (w := w) (base := base) T
  refine T.d_are_steps.ok sc_are_steps (fun vs H Q E h => ?_) (fun f cdv A outer s H vs Q E hr h => ?_)
  · obtain ⟨d, a, n, ps, rfl, _⟩ := h
    rfl
  · obtain ⟨d, a, n, ps, rfl, hD, hA, ok, hn, k⟩ := h
    obtain ⟨dx, hd⟩ := id hD
    rcases hA with hA | hA
    · obtain ⟨vs, hv, pr⟩ := hA
      have hl := pr.length
      refine ⟨_, (pss_cons (ps_if (PW.pt (pw_or (pt_not (pt_val (pe_callB call_isiT (by rfl) T.b_isinstance (by decide +kernel) (pa_cons (pv 1) (pa_cons (pe_tup (pa_cons (pe_bltn (v := .ty "list") rfl T.b_list (by decide +kernel) rfl) (pa_cons (pe_bltn (v := .ty "tuple") rfl T.b_tuple (by decide +kernel) rfl) pa_nil))) pa_nil))))) (pw_or1 (pt_cmpR op_eqi (pe_callB call_len (by rfl) T.b_len (by decide +kernel) (pa_cons (pv 1) pa_nil)) pe_int (nomark _))))) (pss_one (ps_ret pe_bl)) pss_nil)
      (pss_cons (ps_if (pt_not (pt_val (pe_callB (cr_all rfl) (by rfl) T.b_all (by decide +kernel) (pa_cons (pe_lc (own := [("step", 4)]) (tt := tYes) rfl sc_are_steps.nd (pi_list (pv 1)) (blkOk_by (N := ["day", "value", "ascend", "at", "step"]) (sc := defScope s_are_steps) (by decide +kernel)) (fun _ _ _ _ _ => (pg_name (i := 4) sc_are_steps.nd rfl (Or.inl rfl))) (fun _ _ _ _ _ => pts_nil) (fun _ _ _ _ _ => (pe_f c_is_step hr (pa_cons (pv 0) (pa_cons (pv 4) pa_nil))))) pa_nil)))) (pss_one (ps_ret pe_bl)) pss_nil)
      (pss_cons (ps_set (i := 2) sc_are_steps.nd rfl (Or.inl rfl) (pe_callB (cr_all rfl) (by rfl) T.b_all (by decide +kernel) (pa_cons (pe_lc (own := [("at", 3)]) (tt := tYes) rfl sc_are_steps.nd (pi_range1 rfl T.b_range (pa_cons (pe_op op_sub (pe_callB call_len (by rfl) T.b_len (by decide +kernel) (pa_cons (pv 1) pa_nil)) pe_int) pa_nil)) (blkOk_by (N := ["day", "value", "ascend", "at", "step"]) (sc := defScope s_are_steps) (by decide +kernel)) (fun _ _ _ _ _ => (pg_name (i := 3) sc_are_steps.nd rfl (Or.inl rfl))) (fun _ _ _ _ _ => pts_nil) (fun _ _ _ _ _ => (pe_cmpR op_lt (pe_ix (ix_tupK K) (pe_ix (ix_listK K) (pv 1) (pv 3) (fun _ _ => rfl)) pe_int (fun _ _ => rfl)) (pe_ix (ix_tupK K) (pe_ix (ix_listK K) (pv 1) (pe_op op_add (pv 3) pe_int) (fun _ _ => rfl)) pe_int (fun _ _ => rfl)) (nomark _)))) pa_nil)))
      (pss_one (ps_ret (pe_and (pe_cmpR op_eq (pe_ix ix_tup (pe_ix ix_list (pv 1) pe_int (fun _ _ => rfl)) pe_int (fun _ _ => rfl)) pe_int (nomark _)) (pe_one (pv 2)))))))), ?_⟩
      refine ⟨_, rfl, (by show 2 ≤ sizeLine; decide), fun tp ntp => ?_⟩
      have s1 := Same.new1 (o := .tup [.ty "list", .ty "tuple"]) ntp
      refine ⟨_, tp, [.ty "list", .ty "tuple"], _, [.type "list", .type "tuple"], _, rfl, upd_same, .cons (.ty _) (.cons (.ty _) .nil), .base (.lst (s1 _ _ hv)), kit_any_lst, _, rfl, iteNF rfl ?_⟩
      refine ⟨_, rfl, _, _, rfl, .inl ⟨_, SqL.of (s1 _ _ hv), rfl⟩, _, _, rfl, rfl, _, rfl, iteDF (by have := ok.ne; omega) ?_⟩
      refine ⟨_, rfl, a, rfl, ⟨_, SqL.of (s1 _ _ hv)⟩, fun D nD => ?_⟩
      refine lc_list (K := K) (a := a) (xs := vs) (fun i H' => H' D = some (.lst (List.replicate i (.bl true))) ∧ Same (upd H tp (.tup [.ty "list", .ty "tuple"])) H') ⟨upd_same, Same.new1 nD⟩ (fun i H' _ ⟨_, sm⟩ => SqL.of (sm _ _ (s1 _ _ hv))) ?_ ?_
      · rintro i v H' hx ⟨hDD, sm⟩
        have hi : i < vs.length := (List.getElem?_eq_some_iff.mp hx).1
        obtain ⟨q, x, rfl, hp, hq⟩ := pr.get' hx
        have sa := s1.trans sm
        refine ⟨rfl, _, rfl, _, rfl, d, q, n, x.1, x.2, rfl, hD.same sa, sa _ _ hq, ok.inn x (List.mem_of_getElem? hp), _, hDD, (by rw [List.length_replicate]; have := sizeLine_eq; omega), ?_, ?_⟩
        · rw [upd_same, List.replicate_succ']
        · exact fun b o e => by rw [upd_ne (ne_of_none e nD)]; exact sm _ _ e
      · rintro H3 ⟨hD3, sm3⟩
        refine ⟨D, List.replicate vs.length true, rfl, SqL.of (by rw [List.map_replicate]; exact hD3), _, rfl, iteNF (by simp) ?_⟩
        have s3 := s1.trans sm3
        refine ⟨_, rfl, _, _, rfl, .inl ⟨_, SqL.of (s3 _ _ hv), rfl⟩, _, _, rfl, rfl, _, rfl, (by omega), (by omega), fun D2 nD2 => ?_⟩
        refine lc_range (lo := 0) (n := ((vs.length : Int) - 1).toNat) (fun i H' => H' D2 = some (.lst (List.replicate i (.bl true))) ∧ Same H3 H') ⟨upd_same, Same.new1 nD2⟩ ?_ ?_
        · rintro i H' hi ⟨hDD, sm⟩
          have sb := s3.trans sm
          have i1 : i < ps.length := by omega
          have i2 : i + 1 < ps.length := by omega
          obtain ⟨q1, g1, t1⟩ := pr.get (List.getElem?_eq_getElem i1)
          obtain ⟨q2, g2, t2⟩ := pr.get (List.getElem?_eq_getElem i2)
          have lt := ok.asc i _ _ (List.getElem?_eq_getElem i1) (List.getElem?_eq_getElem i2)
          refine ⟨rfl, _, rfl, _, rfl, a, vs, _, _, rfl, rfl, SqL.of (sb _ _ hv), at_i (i := i) (by omega) g1, q1, _, 0, _, rfl, rfl, SqT.of (sb _ _ t1), rfl, ?_⟩
          refine ⟨_, rfl, _, rfl, _, _, rfl, rfl, a, vs, _, _, rfl, rfl, SqL.of (sb _ _ hv), at_i (i := i + 1) (by omega) g2, q2, _, 0, _, rfl, rfl, SqT.of (sb _ _ t2), rfl, ?_⟩
          refine ⟨_, _, rfl, rfl, _, hDD, (by rw [List.length_replicate]; have := sizeLine_eq; omega), ?_, ?_⟩
          · rw [upd_same]
            show some (HO.lst (List.replicate i (V.bl true) ++ [V.bl (decide (ps[i].1 < ps[i + 1].1))])) = _
            rw [decide_eq_true lt, ← List.replicate_succ']
          · exact fun b o e => by rw [upd_ne (ne_of_none e nD2)]; exact sm _ _ e
        · rintro H4 ⟨hD4, sm4⟩
          have s4 := s3.trans sm4
          obtain ⟨q0, g0, t0⟩ := pr.get (List.getElem?_eq_getElem ok.ne)
          have z0 := ok.z _ (List.getElem?_eq_getElem ok.ne)
          have al : ∀ m : Nat, (List.replicate m true).all id = true := fun m => by simp
          refine ⟨D2, List.replicate _ true, rfl, SqL.of (by rw [List.map_replicate]; exact hD4), ?_⟩
          rw [al]
          refine ⟨_, rfl, a, vs, 0, _, rfl, rfl, SqL.of (s4 _ _ hv), at_i (i := 0) rfl g0, q0, _, 0, _, rfl, rfl, SqT.of (s4 _ _ t0), rfl, rfl, _, rfl, iteD (by rw [z0]) ?_⟩
          exact ⟨_, rfl, k _ s4⟩
    · obtain ⟨vs, hv, pr⟩ := hA
      have hl := pr.length
      refine ⟨_, (pss_cons (ps_if (PW.pt (pw_or (pt_not (pt_val (pe_callB call_isiT (by rfl) T.b_isinstance (by decide +kernel) (pa_cons (pv 1) (pa_cons (pe_tup (pa_cons (pe_bltn (v := .ty "list") rfl T.b_list (by decide +kernel) rfl) (pa_cons (pe_bltn (v := .ty "tuple") rfl T.b_tuple (by decide +kernel) rfl) pa_nil))) pa_nil))))) (pw_or1 (pt_cmpR op_eqi (pe_callB call_len (by rfl) T.b_len (by decide +kernel) (pa_cons (pv 1) pa_nil)) pe_int (nomark _))))) (pss_one (ps_ret pe_bl)) pss_nil)
      (pss_cons (ps_if (pt_not (pt_val (pe_callB (cr_all rfl) (by rfl) T.b_all (by decide +kernel) (pa_cons (pe_lc (own := [("step", 4)]) (tt := tYes) rfl sc_are_steps.nd (pi_tup (pv 1)) (blkOk_by (N := ["day", "value", "ascend", "at", "step"]) (sc := defScope s_are_steps) (by decide +kernel)) (fun _ _ _ _ _ => (pg_name (i := 4) sc_are_steps.nd rfl (Or.inl rfl))) (fun _ _ _ _ _ => pts_nil) (fun _ _ _ _ _ => (pe_f c_is_step hr (pa_cons (pv 0) (pa_cons (pv 4) pa_nil))))) pa_nil)))) (pss_one (ps_ret pe_bl)) pss_nil)
      (pss_cons (ps_set (i := 2) sc_are_steps.nd rfl (Or.inl rfl) (pe_callB (cr_all rfl) (by rfl) T.b_all (by decide +kernel) (pa_cons (pe_lc (own := [("at", 3)]) (tt := tYes) rfl sc_are_steps.nd (pi_range1 rfl T.b_range (pa_cons (pe_op op_sub (pe_callB call_len (by rfl) T.b_len (by decide +kernel) (pa_cons (pv 1) pa_nil)) pe_int) pa_nil)) (blkOk_by (N := ["day", "value", "ascend", "at", "step"]) (sc := defScope s_are_steps) (by decide +kernel)) (fun _ _ _ _ _ => (pg_name (i := 3) sc_are_steps.nd rfl (Or.inl rfl))) (fun _ _ _ _ _ => pts_nil) (fun _ _ _ _ _ => (pe_cmpR op_lt (pe_ix (ix_tupK K) (pe_ix (ix_tupK K) (pv 1) (pv 3) (fun _ _ => rfl)) pe_int (fun _ _ => rfl)) (pe_ix (ix_tupK K) (pe_ix (ix_tupK K) (pv 1) (pe_op op_add (pv 3) pe_int) (fun _ _ => rfl)) pe_int (fun _ _ => rfl)) (nomark _)))) pa_nil)))
      (pss_one (ps_ret (pe_and (pe_cmpR op_eq (pe_ix ix_tup (pe_ix ix_tup (pv 1) pe_int (fun _ _ => rfl)) pe_int (fun _ _ => rfl)) pe_int (nomark _)) (pe_one (pv 2)))))))), ?_⟩
      refine ⟨_, rfl, (by show 2 ≤ sizeLine; decide), fun tp ntp => ?_⟩
      have s1 := Same.new1 (o := .tup [.ty "list", .ty "tuple"]) ntp
      refine ⟨_, tp, [.ty "list", .ty "tuple"], _, [.type "list", .type "tuple"], _, rfl, upd_same, .cons (.ty _) (.cons (.ty _) .nil), .base (.tup (s1 _ _ hv)), kit_any_tup, _, rfl, iteNF rfl ?_⟩
      refine ⟨_, rfl, _, _, rfl, .inr ⟨_, SqT.of (s1 _ _ hv), rfl⟩, _, _, rfl, rfl, _, rfl, iteDF (by have := ok.ne; omega) ?_⟩
      refine ⟨_, rfl, a, rfl, ⟨_, SqT.of (s1 _ _ hv)⟩, fun D nD => ?_⟩
      refine lc_tup (K := K) (a := a) (xs := vs) (fun i H' => H' D = some (.lst (List.replicate i (.bl true))) ∧ Same (upd H tp (.tup [.ty "list", .ty "tuple"])) H') ⟨upd_same, Same.new1 nD⟩ (fun i H' _ ⟨_, sm⟩ => SqT.of (sm _ _ (s1 _ _ hv))) ?_ ?_
      · rintro i v H' hx ⟨hDD, sm⟩
        have hi : i < vs.length := (List.getElem?_eq_some_iff.mp hx).1
        obtain ⟨q, x, rfl, hp, hq⟩ := pr.get' hx
        have sa := s1.trans sm
        refine ⟨rfl, _, rfl, _, rfl, d, q, n, x.1, x.2, rfl, hD.same sa, sa _ _ hq, ok.inn x (List.mem_of_getElem? hp), _, hDD, (by rw [List.length_replicate]; have := sizeLine_eq; omega), ?_, ?_⟩
        · rw [upd_same, List.replicate_succ']
        · exact fun b o e => by rw [upd_ne (ne_of_none e nD)]; exact sm _ _ e
      · rintro H3 ⟨hD3, sm3⟩
        refine ⟨D, List.replicate vs.length true, rfl, SqL.of (by rw [List.map_replicate]; exact hD3), _, rfl, iteNF (by simp) ?_⟩
        have s3 := s1.trans sm3
        refine ⟨_, rfl, _, _, rfl, .inr ⟨_, SqT.of (s3 _ _ hv), rfl⟩, _, _, rfl, rfl, _, rfl, (by omega), (by omega), fun D2 nD2 => ?_⟩
        refine lc_range (lo := 0) (n := ((vs.length : Int) - 1).toNat) (fun i H' => H' D2 = some (.lst (List.replicate i (.bl true))) ∧ Same H3 H') ⟨upd_same, Same.new1 nD2⟩ ?_ ?_
        · rintro i H' hi ⟨hDD, sm⟩
          have sb := s3.trans sm
          have i1 : i < ps.length := by omega
          have i2 : i + 1 < ps.length := by omega
          obtain ⟨q1, g1, t1⟩ := pr.get (List.getElem?_eq_getElem i1)
          obtain ⟨q2, g2, t2⟩ := pr.get (List.getElem?_eq_getElem i2)
          have lt := ok.asc i _ _ (List.getElem?_eq_getElem i1) (List.getElem?_eq_getElem i2)
          refine ⟨rfl, _, rfl, _, rfl, a, vs, _, _, rfl, rfl, SqT.of (sb _ _ hv), at_i (i := i) (by omega) g1, q1, _, 0, _, rfl, rfl, SqT.of (sb _ _ t1), rfl, ?_⟩
          refine ⟨_, rfl, _, rfl, _, _, rfl, rfl, a, vs, _, _, rfl, rfl, SqT.of (sb _ _ hv), at_i (i := i + 1) (by omega) g2, q2, _, 0, _, rfl, rfl, SqT.of (sb _ _ t2), rfl, ?_⟩
          refine ⟨_, _, rfl, rfl, _, hDD, (by rw [List.length_replicate]; have := sizeLine_eq; omega), ?_, ?_⟩
          · rw [upd_same]
            show some (HO.lst (List.replicate i (V.bl true) ++ [V.bl (decide (ps[i].1 < ps[i + 1].1))])) = _
            rw [decide_eq_true lt, ← List.replicate_succ']
          · exact fun b o e => by rw [upd_ne (ne_of_none e nD2)]; exact sm _ _ e
        · rintro H4 ⟨hD4, sm4⟩
          have s4 := s3.trans sm4
          obtain ⟨q0, g0, t0⟩ := pr.get (List.getElem?_eq_getElem ok.ne)
          have z0 := ok.z _ (List.getElem?_eq_getElem ok.ne)
          have al : ∀ m : Nat, (List.replicate m true).all id = true := fun m => by simp
          refine ⟨D2, List.replicate _ true, rfl, SqL.of (by rw [List.map_replicate]; exact hD4), ?_⟩
          rw [al]
          refine ⟨_, rfl, a, vs, 0, _, rfl, rfl, SqT.of (s4 _ _ hv), at_i (i := 0) rfl g0, q0, _, 0, _, rfl, rfl, SqT.of (s4 _ _ t0), rfl, rfl, _, rfl, iteD (by rw [z0]) ?_⟩
          exact ⟨_, rfl, k _ s4⟩
def spFewest : Sp := fun vs H Q _ => ∃ a ps, vs = [.ref a] ∧ (LP H a ps ∨ TP H a ps) ∧ ps.length ≤ 100 ∧ ∀ t H', H t = none → Same H H' → TP H' t (fewestP ps) → Q (.ref t) H'
theorem c_fewest_steps (T : Txt K mg ADay ACurve) : CalF P w K mg base 1 "fewest_steps" ["steps"] spFewest := by
  refine T.d_fewest_steps.ok sc_fewest_steps (fun vs H Q E h => ?_) (fun f cdv A outer s H vs Q E hr h => ?_)
  · obtain ⟨a, ps, rfl, _⟩ := h
    rfl
  · obtain ⟨a, ps, rfl, hA, hn, k⟩ := h
    rcases hA with hA | hA
    · obtain ⟨vs, hv, pr⟩ := hA
      refine ⟨_, (pss_cons (ps_set (i := 1) sc_fewest_steps.nd rfl (Or.inl rfl) (pe_lst pa_nil))
      (pss_cons (ps_for PassesOwn.never rfl (pi_list (pv 0)) (pg_tup rfl (pgs_cons (pg_name (i := 2) sc_fewest_steps.nd rfl (Or.inl rfl)) (pgs_cons (pg_name (i := 3) sc_fewest_steps.nd rfl (Or.inl rfl)) pgs_nil))) (pss_one (ps_if (PW.pt (pw_or (pt_not (pt_truth (pv 1) (by intro _; rfl))) (pw_or1 (pt_cmpR op_nei (pe_ix ix_tup (pe_ix ix_list (pv 1) (pe_un un_neg pe_int) (fun _ _ => rfl)) pe_int (fun _ _ => rfl)) (pv 3) (nomark _))))) (pss_one (ps_expr (pe_bm PySem.F.plainAttrs_list PySem.F.slot_list_append PySem.F.type_list_append mt_append (pv 1) (pa_cons (pe_tup (pa_cons (pv 2) (pa_cons (pv 3) pa_nil))) pa_nil)))) pss_nil)))
      (pss_one (ps_ret (pe_callTy call_tuple_of (by rfl) T.b_tuple (by decide +kernel) (pa_cons (pv 1) pa_nil)))))), ?_⟩
      refine ⟨(by show 0 ≤ sizeLine; decide), fun fa nfa => ?_⟩
      have s1 := Same.new1 (o := .lst []) nfa
      refine ⟨_, rfl, a, rfl, ⟨_, SqL.of (s1 _ _ hv)⟩, for_list (K := K) (a := a) (xs := vs) (fun i σ H' => ∃ x y : Option V, σ = [some (.ref a), some (.ref fa), x, y] ∧ LP H' fa (fewestP (ps.take i)) ∧ Same H H') ⟨_, _, rfl, ⟨[], upd_same, .nil⟩, s1⟩ (fun i σ H' _ ⟨_, _, _, _, sm⟩ => SqL.of (sm _ _ hv)) ?_ ?_⟩
      · rintro i v σ H' hx ⟨x0, y0, rfl, ⟨ws, hw, pw⟩, sm⟩
        obtain ⟨q, x, rfl, hp, hq⟩ := pr.get' hx
        have hi : i < ps.length := (List.getElem?_eq_some_iff.mp hp).1
        have lw := pw.length
        have ll := fewestP_len (ps.take i)
        have lt : (ps.take i).length ≤ i := by rw [List.length_take]; omega
        refine ⟨q, _, rfl, SqT.of (sm _ _ hq), rfl, _, _, rfl, _, _, rfl, rfl, ?_⟩
        have nxt : fwStep (fewestP (ps.take i)) x = fewestP (ps.take i) ++ [x] → ∀ t, H' t = none → LP (upd (upd H' t (.tup [.int x.1, .int x.2])) fa (.lst (ws ++ [.ref t]))) fa (fewestP (ps.take (i + 1))) ∧ Same H (upd (upd H' t (.tup [.int x.1, .int x.2])) fa (.lst (ws ++ [.ref t]))) := by
          intro e t nt
          have hw1 := Same.new1 (o := .tup [.int x.1, .int x.2]) nt _ _ hw
          refine ⟨⟨_, upd_same, ?_⟩, fun b o eb => by rw [upd_ne (ne_of_none eb nfa), upd_ne (ne_of_none (sm _ _ eb) nt)]; exact sm _ _ eb⟩
          rw [fewestP_take hp, e]
          exact ((pw.same (Same.new1 nt)).append (.cons upd_same .nil)).but (But.upd) hw1
        refine ⟨_, rfl, !ws.isEmpty, .inl ⟨ws, SqL.of hw, rfl⟩, ?_⟩
        by_cases e0 : fewestP (ps.take i) = []
        · have w0 : ws = [] := List.eq_nil_of_length_eq_zero (by rw [lw, e0]; rfl)
          refine iteN (by rw [w0]; rfl) ?_
          refine ⟨_, rfl, .inl ⟨rfl, _, SqL.of hw⟩, _, rfl, _, rfl, (by show 2 ≤ sizeLine; decide), fun t nt => ?_⟩
          obtain ⟨n1, n2⟩ := nxt (by unfold fwStep; rw [e0]; rfl) t nt
          exact ⟨fa, ws, .ref t, rfl, rfl, Same.new1 nt _ _ hw, (by have := sizeLine_eq; omega), _, _, rfl, n1, n2⟩
        · have l0 : 0 < (fewestP (ps.take i)).length := List.length_pos_iff.mpr e0
          obtain ⟨y, hy⟩ : ∃ y, (fewestP (ps.take i))[(fewestP (ps.take i)).length - 1]? = some y := ⟨_, List.getElem?_eq_getElem (by omega)⟩
          obtain ⟨ql, gl, tl⟩ := pw.get hy
          rw [← lw] at gl
          refine iteNF (by cases ws with
            | nil => simp at lw; omega
            | cons a r => rfl) ?_
          refine ⟨_, rfl, _, rfl, fa, ws, _, _, rfl, rfl, SqL.of hw, at_last gl, ql, _, 1, _, rfl, rfl, SqT.of tl, rfl, _, rfl, _, _, rfl, rfl, _, rfl, ?_⟩
          have gl2 : (fewestP (ps.take i)).getLast? = some y := by rw [List.getLast?_eq_getElem?]; exact hy
          by_cases e2 : y.2 = x.2
          · refine iteNF (by simp [e2]) ?_
            refine ⟨_, _, rfl, ?_, sm⟩
            rw [fewestP_take hp]
            have e3 : fwStep (fewestP (ps.take i)) x = fewestP (ps.take i) := by
              unfold fwStep
              rw [gl2, if_pos (by simp [e2])]
            rw [e3]
            exact ⟨ws, hw, pw⟩
          · refine iteN (by simp [e2]) ?_
            refine ⟨_, rfl, .inl ⟨rfl, _, SqL.of hw⟩, _, rfl, _, rfl, (by show 2 ≤ sizeLine; decide), fun t nt => ?_⟩
            obtain ⟨n1, n2⟩ := nxt (by unfold fwStep; rw [gl2, if_neg (by simp [e2])]) t nt
            exact ⟨fa, ws, .ref t, rfl, rfl, Same.new1 nt _ _ hw, (by have := sizeLine_eq; omega), _, _, rfl, n1, n2⟩
      · rintro σ H' ⟨x0, y0, rfl, ⟨ws, hw, pw⟩, sm⟩
        refine ⟨_, rfl, fa, ws, rfl, .inl ⟨SqL.of hw, fun t nt => ?_⟩⟩
        rw [pr.length, List.take_length] at pw
        exact k t _ (sm.free nt) (sm.trans (Same.new1 nt)) ⟨ws, upd_same, pw.same (Same.new1 nt)⟩
    · obtain ⟨vs, hv, pr⟩ := hA
      refine ⟨_, (pss_cons (ps_set (i := 1) sc_fewest_steps.nd rfl (Or.inl rfl) (pe_lst pa_nil))
      (pss_cons (ps_for PassesOwn.never rfl (pi_tup (pv 0)) (pg_tup rfl (pgs_cons (pg_name (i := 2) sc_fewest_steps.nd rfl (Or.inl rfl)) (pgs_cons (pg_name (i := 3) sc_fewest_steps.nd rfl (Or.inl rfl)) pgs_nil))) (pss_one (ps_if (PW.pt (pw_or (pt_not (pt_truth (pv 1) (by intro _; rfl))) (pw_or1 (pt_cmpR op_nei (pe_ix ix_tup (pe_ix ix_list (pv 1) (pe_un un_neg pe_int) (fun _ _ => rfl)) pe_int (fun _ _ => rfl)) (pv 3) (nomark _))))) (pss_one (ps_expr (pe_bm PySem.F.plainAttrs_list PySem.F.slot_list_append PySem.F.type_list_append mt_append (pv 1) (pa_cons (pe_tup (pa_cons (pv 2) (pa_cons (pv 3) pa_nil))) pa_nil)))) pss_nil)))
      (pss_one (ps_ret (pe_callTy call_tuple_of (by rfl) T.b_tuple (by decide +kernel) (pa_cons (pv 1) pa_nil)))))), ?_⟩
      refine ⟨(by show 0 ≤ sizeLine; decide), fun fa nfa => ?_⟩
      have s1 := Same.new1 (o := .lst []) nfa
      refine ⟨_, rfl, a, rfl, ⟨_, SqT.of (s1 _ _ hv)⟩, for_tup (K := K) (a := a) (xs := vs) (fun i σ H' => ∃ x y : Option V, σ = [some (.ref a), some (.ref fa), x, y] ∧ LP H' fa (fewestP (ps.take i)) ∧ Same H H') ⟨_, _, rfl, ⟨[], upd_same, .nil⟩, s1⟩ (fun i σ H' _ ⟨_, _, _, _, sm⟩ => SqT.of (sm _ _ hv)) ?_ ?_⟩
      · rintro i v σ H' hx ⟨x0, y0, rfl, ⟨ws, hw, pw⟩, sm⟩
        obtain ⟨q, x, rfl, hp, hq⟩ := pr.get' hx
        have hi : i < ps.length := (List.getElem?_eq_some_iff.mp hp).1
        have lw := pw.length
        have ll := fewestP_len (ps.take i)
        have lt : (ps.take i).length ≤ i := by rw [List.length_take]; omega
        refine ⟨q, _, rfl, SqT.of (sm _ _ hq), rfl, _, _, rfl, _, _, rfl, rfl, ?_⟩
        have nxt : fwStep (fewestP (ps.take i)) x = fewestP (ps.take i) ++ [x] → ∀ t, H' t = none → LP (upd (upd H' t (.tup [.int x.1, .int x.2])) fa (.lst (ws ++ [.ref t]))) fa (fewestP (ps.take (i + 1))) ∧ Same H (upd (upd H' t (.tup [.int x.1, .int x.2])) fa (.lst (ws ++ [.ref t]))) := by
          intro e t nt
          have hw1 := Same.new1 (o := .tup [.int x.1, .int x.2]) nt _ _ hw
          refine ⟨⟨_, upd_same, ?_⟩, fun b o eb => by rw [upd_ne (ne_of_none eb nfa), upd_ne (ne_of_none (sm _ _ eb) nt)]; exact sm _ _ eb⟩
          rw [fewestP_take hp, e]
          exact ((pw.same (Same.new1 nt)).append (.cons upd_same .nil)).but (But.upd) hw1
        refine ⟨_, rfl, !ws.isEmpty, .inl ⟨ws, SqL.of hw, rfl⟩, ?_⟩
        by_cases e0 : fewestP (ps.take i) = []
        · have w0 : ws = [] := List.eq_nil_of_length_eq_zero (by rw [lw, e0]; rfl)
          refine iteN (by rw [w0]; rfl) ?_
          refine ⟨_, rfl, .inl ⟨rfl, _, SqL.of hw⟩, _, rfl, _, rfl, (by show 2 ≤ sizeLine; decide), fun t nt => ?_⟩
          obtain ⟨n1, n2⟩ := nxt (by unfold fwStep; rw [e0]; rfl) t nt
          exact ⟨fa, ws, .ref t, rfl, rfl, Same.new1 nt _ _ hw, (by have := sizeLine_eq; omega), _, _, rfl, n1, n2⟩
        · have l0 : 0 < (fewestP (ps.take i)).length := List.length_pos_iff.mpr e0
          obtain ⟨y, hy⟩ : ∃ y, (fewestP (ps.take i))[(fewestP (ps.take i)).length - 1]? = some y := ⟨_, List.getElem?_eq_getElem (by omega)⟩
          obtain ⟨ql, gl, tl⟩ := pw.get hy
          rw [← lw] at gl
          refine iteNF (by cases ws with
            | nil => simp at lw; omega
            | cons a r => rfl) ?_
          refine ⟨_, rfl, _, rfl, fa, ws, _, _, rfl, rfl, SqL.of hw, at_last gl, ql, _, 1, _, rfl, rfl, SqT.of tl, rfl, _, rfl, _, _, rfl, rfl, _, rfl, ?_⟩
          have gl2 : (fewestP (ps.take i)).getLast? = some y := by rw [List.getLast?_eq_getElem?]; exact hy
          by_cases e2 : y.2 = x.2
          · refine iteNF (by simp [e2]) ?_
            refine ⟨_, _, rfl, ?_, sm⟩
            rw [fewestP_take hp]
            have e3 : fwStep (fewestP (ps.take i)) x = fewestP (ps.take i) := by
              unfold fwStep
              rw [gl2, if_pos (by simp [e2])]
            rw [e3]
            exact ⟨ws, hw, pw⟩
          · refine iteN (by simp [e2]) ?_
            refine ⟨_, rfl, .inl ⟨rfl, _, SqL.of hw⟩, _, rfl, _, rfl, (by show 2 ≤ sizeLine; decide), fun t nt => ?_⟩
            obtain ⟨n1, n2⟩ := nxt (by unfold fwStep; rw [gl2, if_neg (by simp [e2])]) t nt
            exact ⟨fa, ws, .ref t, rfl, rfl, Same.new1 nt _ _ hw, (by have := sizeLine_eq; omega), _, _, rfl, n1, n2⟩
      · rintro σ H' ⟨x0, y0, rfl, ⟨ws, hw, pw⟩, sm⟩
        refine ⟨_, rfl, fa, ws, rfl, .inl ⟨SqL.of hw, fun t nt => ?_⟩⟩
        rw [pr.length, List.take_length] at pw
        exact k t _ (sm.free nt) (sm.trans (Same.new1 nt)) ⟨ws, upd_same, pw.same (Same.new1 nt)⟩
def spSpans (C : Addr) : Sp := fun vs H Q _ => ∃ d a n ps, vs = [.ref d, .ref a] ∧ DayAt C H d n ∧ TP H a ps ∧ (0 < ps.length ∧ ps.length ≤ 100) ∧ ∀ t H', H t = none → Same H H' → T3 H' t (spansP ps n) → Q (.ref t) H'
theorem c_spans_under (T : Txt K mg ADay ACurve) : CalF P w K mg base 1 "spans_under" ["day", "steps"] (spSpans ADay) := by
  refine T.d_spans_under.ok sc_spans_under (fun vs H Q E h => ?_) (fun f cdv A outer s H vs Q E hr h => ?_)
  · obtain ⟨d, a, n, ps, rfl, _⟩ := h
    rfl
  · obtain ⟨d, a, n, ps, rfl, ⟨dx, hd⟩, ⟨vs, hv, pr⟩, hn, k⟩ := h
    have hl := pr.length
    refine ⟨_, (pss_cons (ps_set (i := 2) sc_spans_under.nd rfl (Or.inl rfl) (pe_op op_cat (pe_lc (own := [("step", 3)]) (tt := tYes) rfl sc_spans_under.nd (pi_tup (pe_slice sl_tup (pv 1) (po_some pe_int) po_none)) (blkOk_by (N := ["day", "steps", "ends", "step", "end"]) (sc := defScope s_spans_under) (by decide +kernel)) (fun _ _ _ _ _ => (pg_name (i := 3) sc_spans_under.nd rfl (Or.inl rfl))) (fun _ _ _ _ _ => pts_nil) (fun _ _ _ _ _ => (pe_op op_sub (pe_ix (ix_tupK K) (pv 3) pe_int (fun _ _ => rfl)) pe_int))) (pe_lst (pa_cons (pe_op op_sub (pe_fld (pv 0) rfl) pe_int) pa_nil))))
      (pss_one (ps_ret (pe_callTy call_tuple_of (by rfl) T.b_tuple (by decide +kernel) (pa_cons (pe_lc (own := [("step", 3), ("end", 4)]) (tt := tYes) rfl sc_spans_under.nd (pi_zipM (by rfl) T.b_zip (pa_cons (pv 1) (pa_cons (pv 2) pa_nil))) (blkOk_by (N := ["day", "steps", "ends", "step", "end"]) (sc := defScope s_spans_under) (by decide +kernel)) (fun _ _ _ _ _ => (pg_tupK K (n := 2) rfl (pgs_cons (pg_name (i := 3) sc_spans_under.nd rfl (Or.inl rfl)) (pgs_cons (pg_name (i := 4) sc_spans_under.nd rfl (Or.inl rfl)) pgs_nil)))) (fun _ _ _ _ _ => pts_nil) (fun _ _ _ _ _ => (pe_tup (pa_cons (pe_ix (ix_tupK K) (pv 3) pe_int (fun _ _ => rfl)) (pa_cons (pv 4) (pa_cons (pe_ix (ix_tupK K) (pv 3) pe_int (fun _ _ => rfl)) pa_nil)))))) pa_nil))))), ?_⟩
    have l0 : 0 < vs.length := by omega
    refine ⟨_, rfl, _, rfl, a, vs, rfl, SqT.of hv, (fun z => by rw [sIx_one l0] at z; exact absurd z.1 (by decide)), fun q1 n1 => ?_⟩
    rw [cut_tail l0]
    have s1 := Same.new1 (o := .tup (vs.drop 1)) n1
    have pd := pr.drop 1
    refine ⟨q1, rfl, ⟨_, SqT.of upd_same⟩, fun D nD => ?_⟩
    refine lc_tup (K := K) (a := q1) (xs := vs.drop 1) (fun i H' => H' D = some (.lst (((ps.drop 1).map (fun x => V.int (x.1 - 1))).take i)) ∧ Same (upd H q1 (.tup (vs.drop 1))) H') ⟨upd_same, Same.new1 nD⟩ (fun i H' _ ⟨_, sm⟩ => SqT.of (sm _ _ upd_same)) ?_ ?_
    · rintro i v H' hx ⟨hDD, sm⟩
      obtain ⟨q, x, rfl, hp, hq⟩ := pd.get' hx
      have hi : i < (ps.drop 1).length := (List.getElem?_eq_some_iff.mp hp).1
      rw [List.length_drop] at hi
      refine ⟨rfl, _, rfl, q, _, 0, _, rfl, rfl, SqT.of (sm _ _ (s1 _ _ hq)), rfl, _, _, rfl, rfl, _, hDD, (by rw [List.length_take]; have := sizeLine_eq; omega), ?_, ?_⟩
      · rw [upd_same, List.take_succ, List.getElem?_map, hp]
        rfl
      · exact fun b o e => by rw [upd_ne (ne_of_none e nD)]; exact sm _ _ e
    · rintro H3 ⟨hD3, sm3⟩
      have e0 : ((ps.drop 1).map (fun x => V.int (x.1 - 1))).take (vs.drop 1).length = (ps.drop 1).map (fun x => V.int (x.1 - 1)) := List.take_of_length_le (by rw [List.length_map, List.length_drop, List.length_drop]; omega)
      rw [e0] at hD3
      have s3 := s1.trans sm3
      have hd3 := s3 _ _ hd
      refine ⟨_, rfl, _, _, _, _, _, rfl, hd3, T.C_Day.cl, T.na_Day_length, dayF_len _, _, _, rfl, rfl, (by show 1 ≤ sizeLine; decide), fun q2 n2 => ?_⟩
      refine ⟨D, q2, _, _, rfl, rfl, (upd_ne (ne_of_none hD3 n2)).trans hD3, upd_same, (by simp only [List.length_append, List.length_map, List.length_drop, List.length_singleton]; have := sizeLine_eq; omega), fun en nen => ?_⟩
      have e1 : (ps.drop 1).map (fun x => V.int (x.1 - 1)) ++ [V.int (n - 1)] = (endsP ps n).map V.int := by
        unfold endsP
        rw [List.map_append, List.map_map]
        rfl
      rw [e1]
      have el := endsP_len (n := n) hn.1
      have s4 := s3.trans ((Same.new1 (o := .lst [.int (n - 1)]) n2).trans (Same.new1 (o := .lst ((endsP ps n).map V.int)) nen))
      refine ⟨_, rfl, _, rfl, a, en, vs, (endsP ps n).map V.int, rfl, ⟨SqT.of (s4 _ _ hv), SqL.of upd_same⟩, fun D2 nD2 => ?_⟩
      refine lc_zipM (K := K) (xs := vs) (ys := (endsP ps n).map V.int) (by rw [List.length_map, el]; exact hl) (fun i H' => ∃ ws, H' D2 = some (.lst ws) ∧ Trs H' ws ((spansP ps n).take i) ∧ Same (upd (upd H3 q2 (.lst [.int (n - 1)])) en (.lst ((endsP ps n).map V.int))) H') ⟨[], upd_same, .nil, Same.new1 nD2⟩ (fun i H' _ ⟨ws, _, _, sm⟩ => ⟨SqT.of (sm _ _ (s4 _ _ hv)), SqL.of (sm _ _ upd_same)⟩) ?_ ?_
      · rintro i v1 v2 TT H' hx hy nT ⟨ws, hw, tw, sm⟩
        obtain ⟨q, x, rfl, hp, hq⟩ := pr.get' hx
        rw [List.getElem?_map] at hy
        obtain ⟨e, he, rfl⟩ := Option.map_eq_some_iff.mp hy
        have hi : i < ps.length := (List.getElem?_eq_some_iff.mp hp).1
        have sp : (spansP ps n)[i]? = some (x.1, e, x.2) := by
          unfold spansP
          rw [List.getElem?_zipWith, hp, he]
        have lw := tw.length
        have lt : ((spansP ps n).take i).length ≤ i := by rw [List.length_take]; omega
        have sT := sm.trans (Same.new1 (o := .tup [.ref q, .int e]) nT)
        have hq' := sT _ _ (s4 _ _ hq)
        refine ⟨TT, _, rfl, SqT.of upd_same, rfl, _, _, rfl, _, _, rfl, rfl, rfl, ?_⟩
        refine ⟨_, rfl, q, _, 0, _, rfl, rfl, SqT.of hq', rfl, _, rfl, _, rfl, q, _, 1, _, rfl, rfl, SqT.of hq', rfl, (by show 3 ≤ sizeLine; decide), fun t nt => ?_⟩
        have sU := (Same.new1 (o := .tup [.ref q, .int e]) nT).trans (Same.new1 (o := .tup [.int x.1, .int e, .int x.2]) nt)
        refine ⟨ws, sU _ _ hw, (by have := sizeLine_eq; omega), ws ++ [.ref t], upd_same, ?_, fun b o eb => by rw [upd_ne (ne_of_none eb nD2)]; exact sU _ _ (sm _ _ eb)⟩
        rw [List.take_succ, sp]
        exact ((tw.same sU).append (.cons upd_same .nil)).but But.upd (sU _ _ hw)
      · rintro H5 ⟨ws, hw, tw, sm⟩
        have lsp : (spansP ps n).length = vs.length := by unfold spansP; rw [List.length_zipWith, el, hl]; omega
        rw [← lsp, List.take_length] at tw
        refine ⟨D2, ws, rfl, .inl ⟨SqL.of hw, fun t nt => ?_⟩⟩
        exact k t _ ((s4.trans sm).free nt) ((s4.trans sm).trans (Same.new1 nt)) ⟨ws, upd_same, tw.same (Same.new1 nt)⟩
def CvAt (C CD : Addr) (H : Hp) (a : Addr) (n : Int) (fs : List (Int × Int)) : Prop := ∃ dx d st sp, H a = some (.ins C dx (cvF d st sp)) ∧ DayAt CD H d n ∧ TP H st fs ∧ T3 H sp (spansP fs n)
theorem CvAt.same {C CD a : Addr} {H H' : Hp} {n : Int} {fs : List (Int × Int)} (h : CvAt C CD H a n fs) (s : Same H H') : CvAt C CD H' a n fs := by
  obtain ⟨dx, d, st, sp, e, hd, h1, h2⟩ := h
  exact ⟨dx, d, st, sp, s _ _ e, hd.same s, h1.same s, h2.same s⟩
theorem CvAt.but {C CD p a : Addr} {H H' : Hp} {n : Int} {fs : List (Int × Int)} {xs : List V} (h : CvAt C CD H a n fs) (b : But p H H') (hp : H p = some (.lst xs)) : CvAt C CD H' a n fs := by
  obtain ⟨dx, d, st, sp, e, ⟨dy, hd⟩, h1, h2⟩ := h
  have nt : ∀ ys, H p ≠ some (.tup ys) := fun ys z => by rw [hp] at z; cases z
  exact ⟨dx, d, st, sp, b _ _ e (fun z => by subst z; rw [hp] at e; cases e), ⟨dy, b _ _ hd fun z => by subst z; rw [hp] at hd; cases hd⟩, h1.butG b nt, h2.butG b nt⟩
def spCvInit (C CD : Addr) : Sp := fun vs H Q _ => ∃ p dx d a n ps, vs = [.ref p, .ref d, .ref a] ∧ H p = some (.ins C dx []) ∧ d ≠ p ∧ DayAt CD H d n ∧ (LP H a ps ∨ TP H a ps) ∧ StepsOk n ps ∧ ps.length ≤ 100 ∧ ∀ H', CvAt C CD H' p n (fewestP ps) → But p H H' → Q .non H'
theorem c_Curve___init__ (T : Txt K mg ADay ACurve) : MetF P w K mg base 5 ACurve "__init__" ["self", "day", "steps"] (spCvInit ACurve ADay) := by
  have c_are_steps := c_are_steps (P := P) (w := w) (base := base) T
  have c_fewest_steps := c_fewest_steps (P := P) (w := w) (base := base) T
  have c_spans_under := c_spans_under (P := P) (w := w) (base := base) T
  refine T.m_Curve___init__.ok sc_Curve___init__ (fun vs H Q E h => ?_) (fun f cdv A outer s H vs Q E hr h => ?_)
  · obtain ⟨p, dx, d, a, n, ps, rfl, _⟩ := h
    rfl
  · obtain ⟨p, dx, d, a, n, ps, rfl, hp, ndp, hD, hA, ok, hn, k⟩ := h
    refine ⟨_, (pss_cons (ps_if (pt_not (pt_val (pe_callB call_isi (by rfl) T.b_isinstance (by decide +kernel) (pa_cons (pv 1) (pa_cons (pe_glob (v := .ref ADay) rfl T.C_Day.mgC rfl) pa_nil))))) (pss_one ps_never) pss_nil)
      (pss_cons (ps_if (pt_not (pt_val (pe_f c_are_steps hr (pa_cons (pv 1) (pa_cons (pv 2) pa_nil))))) (pss_one ps_never) pss_nil)
      (pss_cons (ps_fld (pv 0) (pv 1) rfl)
      (pss_cons (ps_fld (pv 0) (pe_f c_fewest_steps hr (pa_cons (pv 2) pa_nil)) rfl)
      (pss_one (ps_fld (pv 0) (pe_f c_spans_under hr (pa_cons (pv 1) (pa_cons (pe_fld (pv 0) rfl) pa_nil))) rfl)))))), ?_⟩
    obtain ⟨dy, hd⟩ := id hD
    refine ⟨_, rfl, _, _, _, _, _, rfl, .own _, .base (.ins hd T.C_Day.cl T.I_Day.ha T.I_Day.hn T.I_Day.htk T.I_Day.hm), kit_self _, _, rfl, iteNF rfl ?_⟩
    refine ⟨_, rfl, _, rfl, d, a, n, ps, rfl, hD, hA, ok, hn, fun H1 s1 => ⟨_, rfl, iteNF rfl ?_⟩⟩
    have hp1 := s1 _ _ hp
    have nt : ∀ xs, H1 p ≠ some (.tup xs) := fun xs z => by rw [hp1] at z; cases z
    have nl : ∀ xs, H1 p ≠ some (.lst xs) := fun xs z => by rw [hp1] at z; cases z
    refine ⟨_, rfl, _, rfl, p, ACurve, dx, _, rfl, hp1, T.C_Curve.cl, T.na_Curve_day, (by show 0 < 1000; decide), ?_⟩
    have b2 : But p H1 (upd H1 p (.ins ACurve dx (putF "day" (.ref d) []))) := But.upd
    have hA2 : LP (upd H1 p (.ins ACurve dx (putF "day" (.ref d) []))) a ps ∨ TP (upd H1 p (.ins ACurve dx (putF "day" (.ref d) []))) a ps := by
      rcases hA with hA | hA
      · exact .inl ((hA.same s1).butG b2 nt nl)
      · exact .inr ((hA.same s1).butG b2 nt)
    refine ⟨_, rfl, a, ps, rfl, hA2, hn, fun st H3 nst s3 hst => ?_⟩
    have hp3 := s3 _ _ upd_same
    have nt3 : ∀ xs, H3 p ≠ some (.tup xs) := fun xs z => by rw [hp3] at z; cases z
    refine ⟨_, rfl, p, ACurve, dx, _, rfl, hp3, T.C_Curve.cl, T.na_Curve_steps, (by show 1 < 1000; decide), ?_⟩
    have b4 : But p H3 (upd H3 p (.ins ACurve dx (putF "steps" (.ref st) (putF "day" (.ref d) [])))) := But.upd
    have dAll : DayAt ADay (upd H3 p (.ins ACurve dx (putF "steps" (.ref st) (putF "day" (.ref d) [])))) d n := (((hD.same s1).but b2 ndp).same s3).but b4 ndp
    have hst4 := hst.butG b4 nt3
    refine ⟨_, rfl, _, rfl, _, _, _, _, _, rfl, upd_same, T.C_Curve.cl, T.na_Curve_steps, (by rw [lookup_putF, if_pos rfl]), d, st, n, fewestP ps, rfl, dAll, hst4, ⟨fewestP_pos ok.ne, Nat.le_trans (fewestP_len ps) hn⟩, fun sp H5 nsp s5 hsp => ?_⟩
    have hp5 := s5 _ _ upd_same
    have nt5 : ∀ xs, H5 p ≠ some (.tup xs) := fun xs z => by rw [hp5] at z; cases z
    refine ⟨_, rfl, p, ACurve, dx, _, rfl, hp5, T.C_Curve.cl, T.na_Curve__spans, (by show 2 < 1000; decide), ?_⟩
    have b6 : But p H5 (upd H5 p (.ins ACurve dx (cvF d st sp))) := But.upd
    exact k _ ⟨dx, d, st, sp, upd_same, (dAll.same s5).but b6 ndp, (hst4.same s5).butG b6 nt5, hsp.butG b6 nt5⟩ ((((((But.of s1).trans b2).trans (But.of s3)).trans b4).trans (But.of s5)).trans b6)
def spCurve (C CD : Addr) : Sp := fun vs H Q _ => ∃ d a n ps, vs = [.ref d, .ref a] ∧ DayAt CD H d n ∧ (LP H a ps ∨ TP H a ps) ∧ StepsOk n ps ∧ ps.length ≤ 100 ∧ ∀ q H', H q = none → Same H H' → CvAt C CD H' q n (fewestP ps) → Q (.ref q) H'
theorem n_Curve (T : Txt K mg ADay ACurve) : NewF P w K mg base 5 "Curve" ACurve ["self", "day", "steps"] (spCurve ACurve ADay) := by
  refine ⟨_, c_Curve___init__ T, T.C_Curve, fun vs H Q h p dx np nd ne => ?_⟩
  obtain ⟨d, a, n, ps, rfl, hD, hA, ok, hn, k⟩ := h
  have sm : Same H (upd (upd H dx (.own p)) p (.ins ACurve dx [])) := fun c o e => by rw [upd_ne (ne_of_none e np), upd_ne (ne_of_none e nd)]; exact e
  obtain ⟨dy, hd⟩ := id hD
  refine ⟨p, dx, d, a, n, ps, rfl, upd_same, (ne_of_none hd np), hD.same sm, hA.imp (fun z => z.same sm) (fun z => z.same sm), ok, hn, fun H' t b => ⟨rfl, k p H' np (fun c o e => ?_) t⟩⟩
  exact b c o (sm _ _ e) (ne_of_none e np)
/-! #### reading a curve -/
/-- the integer under a clock -/
def heightP (ps : List (Int × Int)) (c : Int) : Int := ps.foldl (fun h x => if x.1 ≤ c then x.2 else h) 0
theorem heightP_take {ps : List (Int × Int)} {i : Nat} {x : Int × Int} {c : Int} (h : ps[i]? = some x) : heightP (ps.take (i + 1)) c = if x.1 ≤ c then x.2 else heightP (ps.take i) c := by
  unfold heightP
  rw [List.take_succ, h]
  show List.foldl _ 0 (ps.take i ++ [x]) = _
  rw [List.foldl_append]
  rfl
def spHeight : Sp := fun vs H Q _ => ∃ a ps c, vs = [.ref a, .int c] ∧ TP H a ps ∧ Q (.int (heightP ps c)) H
theorem c_height_at (T : Txt K mg ADay ACurve) : CalF P w K mg base 1 "height_at" ["steps", "clock"] spHeight := by
  refine T.d_height_at.ok sc_height_at (fun vs H Q E h => ?_) (fun f cdv A outer s H vs Q E hr h => ?_)
  · obtain ⟨a, ps, c, rfl, _⟩ := h
    rfl
  · obtain ⟨a, ps, c, rfl, ⟨vs, hv, pr⟩, k⟩ := h
    refine ⟨_, (pss_cons (ps_set (i := 2) sc_height_at.nd rfl (Or.inl rfl) pe_int)
      (pss_cons (ps_for PassesOwn.never rfl (pi_tup (pv 0)) (pg_tup rfl (pgs_cons (pg_name (i := 3) sc_height_at.nd rfl (Or.inl rfl)) (pgs_cons (pg_name (i := 4) sc_height_at.nd rfl (Or.inl rfl)) pgs_nil))) (pss_one (ps_if (pt_cmpR op_le (pv 3) (pv 1) (nomark _)) (pss_one (ps_set (i := 2) sc_height_at.nd rfl (Or.inl rfl) (pv 4))) pss_nil)))
      (pss_one (ps_ret (pv 2))))), ?_⟩
    refine ⟨_, rfl, a, rfl, ⟨_, SqT.of hv⟩, for_tup (K := K) (a := a) (xs := vs) (fun i σ H' => ∃ x y : Option V, σ = [some (.ref a), some (.int c), some (.int (heightP (ps.take i) c)), x, y] ∧ H' = H) ⟨_, _, rfl, rfl⟩ (fun i σ H' _ ⟨_, _, _, e⟩ => by rw [e]; exact SqT.of hv) ?_ ?_⟩
    · rintro i v σ H' hx ⟨x0, y0, rfl, rfl⟩
      obtain ⟨q, x, rfl, hp, hq⟩ := pr.get' hx
      refine ⟨q, _, rfl, SqT.of hq, rfl, _, _, rfl, _, _, rfl, rfl, ?_⟩
      have e := heightP_take (c := c) hp
      refine ⟨_, rfl, _, rfl, _, _, rfl, rfl, _, rfl, ite2 (fun h => ?_) (fun h => ?_)⟩
      · rw [decide_eq_true_eq] at h
        rw [if_pos h] at e
        refine ⟨_, rfl, some (.int x.1), some (.int x.2), ?_, rfl⟩
        rw [e]
        rfl
      · rw [decide_eq_true_eq] at h
        rw [if_neg h] at e
        refine ⟨some (.int x.1), some (.int x.2), ?_, rfl⟩
        rw [e]
        rfl
    · rintro σ H' ⟨x0, y0, rfl, rfl⟩
      rw [pr.length, List.take_length]
      exact ⟨_, rfl, k⟩
def spItem (C CD : Addr) : Sp := fun vs H Q _ => ∃ p n fs c, vs = [.ref p, .int c] ∧ CvAt C CD H p n fs ∧ 0 < n ∧ (-(10 ^ 60) < c ∧ c < 10 ^ 60) ∧ Q (.int (heightP fs (c % n))) H
theorem c_Curve___getitem__ (T : Txt K mg ADay ACurve) : MetF P w K mg base 3 ACurve "__getitem__" ["self", "at"] (spItem ACurve ADay) := by
  have c_is_moment := c_is_moment (P := P) (w := w) (base := base) T
  have c_height_at := c_height_at (P := P) (w := w) (base := base) T
  refine T.m_Curve___getitem__.ok sc_Curve___getitem__ (fun vs H Q E h => ?_) (fun f cdv A outer s H vs Q E hr h => ?_)
  · obtain ⟨p, n, fs, c, rfl, _⟩ := h
    rfl
  · obtain ⟨p, n, fs, c, rfl, ⟨dx, d, st, sp, hp, ⟨dy, hd⟩, hst, hsp⟩, hn, hc, k⟩ := h
    refine ⟨_, (pss_cons (ps_if (pt_not (pt_val (pe_f c_is_moment hr (pa_cons (pv 1) pa_nil)))) (pss_one ps_never) pss_nil)
      (pss_one (ps_ret (pe_f c_height_at hr (pa_cons (pe_fld (pv 0) rfl) (pa_cons (pe_op op_mod (pv 1) (pe_fld (pe_fld (pv 0) rfl) rfl)) pa_nil)))))), ?_⟩
    refine ⟨_, rfl, _, _, rfl, .int c, _, rfl, iteNS hc ?_⟩
    refine ⟨_, rfl, _, _, _, _, _, rfl, hp, T.C_Curve.cl, T.na_Curve_steps, cvF_st _ _ _, ?_⟩
    refine ⟨_, rfl, _, rfl, _, _, _, _, _, rfl, hp, T.C_Curve.cl, T.na_Curve_day, cvF_d _ _ _, _, _, _, _, _, rfl, hd, T.C_Day.cl, T.na_Day_length, dayF_len _, ?_⟩
    exact ⟨_, _, rfl, rfl, hn, st, fs, _, rfl, hst, k⟩
def spCvIter (C CD : Addr) : SpN := fun m vs H Q _ => ∃ p n fs dx d st sp, vs = [.ref p] ∧ H p = some (.ins C dx (cvF d st sp)) ∧ DayAt CD H d n ∧ TP H st fs ∧ T3 H sp (spansP fs n) ∧ ∀ it, H it = none → m ≤ it → Q (.ref it) (upd H it (TiO sp it))
theorem c_Curve___iter__ (T : Txt K mg ADay ACurve) : ItrF P w K mg base 1 ACurve ["self"] (spCvIter ACurve ADay) := by
  refine T.m_Curve___iter__.okN sc_Curve___iter__ (fun m vs H Q E h => ?_) (fun f cdv A outer s H vs Q E hr h => ?_)
  · obtain ⟨p, n, fs, dx, d, st, sp, rfl, _⟩ := h
    rfl
  · obtain ⟨p, n, fs, dx, d, st, sp, rfl, hp, hD, hst, hsp, k⟩ := h
    refine ⟨_, (pss_one (ps_ret (pe_callB call_iterT (by rfl) T.b_iter (by decide +kernel) (pa_cons (pe_fld (pv 0) rfl) pa_nil)))), ?_⟩
    refine ⟨_, rfl, _, _, _, _, _, rfl, hp, T.C_Curve.cl, T.na_Curve__spans, cvF_sp _ _ _, ?_⟩
    obtain ⟨vs, hv, tr⟩ := id hsp
    exact ⟨sp, vs, rfl, SqT.of hv, fun it hit hm => k it hit hm⟩
def spCvEq (K : PySem.W.Frag) (C CD : Addr) : Sp := fun vs H Q _ => ∃ p n fs v, vs = [.ref p, v] ∧ CvAt C CD H p n fs ∧ ((∃ q m gs, v = .ref q ∧ CvAt C CD H q m gs ∧ Q (.bl (decide (n = m ∧ fs = gs))) H) ∨ (∃ t, TyX K H v t ∧ PySem.W.kitOne K t (.ref C) = some false ∧ Q (.bl false) H))
theorem c_Curve___eq__ (T : Txt K mg ADay ACurve) : MetF P w K mg base 2 ACurve "__eq__" ["self", "other"] (spCvEq K ACurve ADay) := by
  have c_Day___eq__ := c_Day___eq__ (P := P) (w := w) (base := base) T
  refine T.m_Curve___eq__.ok sc_Curve___eq__ (fun vs H Q E h => ?_) (fun f cdv A outer s H vs Q E hr h => ?_)
  · obtain ⟨p, n, fs, v, rfl, _⟩ := h
    rfl
  · obtain ⟨p, n, fs, v, rfl, ⟨dx, d, st, sp, hp, hD, ⟨vs, hv, pr⟩, hsp⟩, q⟩ := h
    refine ⟨_, (pss_one (ps_ret (pe_and (pe_callB call_isi (by rfl) T.b_isinstance (by decide +kernel) (pa_cons (pv 1) (pa_cons (pe_glob (v := .ref ACurve) rfl T.C_Curve.mgC rfl) pa_nil))) (pe_and (pe_cmpR (ow_eq c_Day___eq__ hr) (pe_fld (pv 0) rfl) (pe_fld (pv 1) rfl) (nomark _)) (pe_one (pe_cmpR (op_eqD hr.units) (pe_fld (pv 0) rfl) (pe_fld (pv 1) rfl) (nomark _))))))), ?_⟩
    rcases q with ⟨b, m, gs, rfl, ⟨dx2, d2, st2, sp2, hb, hD2, ⟨vs2, hv2, pr2⟩, hsp2⟩, q⟩ | ⟨t, ty, no, q⟩
    · obtain ⟨dy, hd⟩ := id hD
      obtain ⟨dy2, hd2⟩ := id hD2
      refine ⟨_, rfl, _, _, _, _, _, rfl, .own _, .base (.ins hb T.C_Curve.cl T.I_Curve.ha T.I_Curve.hn T.I_Curve.htk T.I_Curve.hm), kit_self _, ?_⟩
      refine ⟨_, rfl, iteT ?_⟩
      refine ⟨_, rfl, _, _, _, _, _, rfl, hp, T.C_Curve.cl, T.na_Curve_day, cvF_d _ _ _, ?_⟩
      refine ⟨_, rfl, _, _, _, _, _, rfl, hb, T.C_Curve.cl, T.na_Curve_day, cvF_d _ _ _, ?_⟩
      refine ⟨d, d2, _, _, _, _, rfl, rfl, hd, hd2, d, n, _, rfl, hD, .inl ⟨d2, m, rfl, hD2, _, rfl, ite2 (fun h => ?_) (fun h => ?_)⟩⟩
      · rw [decide_eq_true_eq] at h
        refine ⟨_, rfl, _, _, _, _, _, rfl, hp, T.C_Curve.cl, T.na_Curve_steps, cvF_st _ _ _, ?_⟩
        refine ⟨_, rfl, _, _, _, _, _, rfl, hb, T.C_Curve.cl, T.na_Curve_steps, cvF_st _ _ _, ?_⟩
        refine ⟨_, _, .tup (SqT.of hv) pr.dp, .tup (SqT.of hv2) pr2.dp, (prP_shaped _).2, (prP_shaped _).2, ?_⟩
        rw [show PyData.eqv (.tuple (fs.map prP)) (.tuple (gs.map prP)) = decide (fs = gs) from prP_eqv _ _]
        have e : decide (n = m ∧ fs = gs) = decide (fs = gs) := by simp [h]
        rw [e] at q
        exact q
      · rw [decide_eq_true_eq] at h
        have e : decide (n = m ∧ fs = gs) = false := by simp [h]
        rw [e] at q
        exact q
    · refine ⟨_, rfl, _, _, _, _, _, rfl, .own _, ty, no, ?_⟩
      exact ⟨_, rfl, iteF q⟩
def spLow (C CD : Addr) : Sp := fun vs H Q _ => ∃ p n fs, vs = [.ref p] ∧ CvAt C CD H p n fs ∧ (0 < fs.length ∧ fs.length ≤ 100) ∧ ∀ m H', m ∈ fs.map (·.2) → (∀ y ∈ fs.map (·.2), m ≤ y) → Same H H' → Q (.int m) H'
def spHigh (C CD : Addr) : Sp := fun vs H Q _ => ∃ p n fs, vs = [.ref p] ∧ CvAt C CD H p n fs ∧ (0 < fs.length ∧ fs.length ≤ 100) ∧ ∀ m H', m ∈ fs.map (·.2) → (∀ y ∈ fs.map (·.2), y ≤ m) → Same H H' → Q (.int m) H'
theorem c_Curve_least (T : Txt K mg ADay ACurve) : PrpF P w K mg base 1 ACurve "least" ["self"] (spLow ACurve ADay) := by
  refine T.m_Curve_least.ok sc_Curve_least (fun vs H Q E h => ?_) (fun f cdv A outer s H vs Q E hr h => ?_)
  · obtain ⟨p, n, fs, rfl, _⟩ := h
    rfl
  · obtain ⟨p, n, fs, rfl, ⟨dx, d, st, sp, hp, hD, ⟨vs, hv, pr⟩, hsp⟩, hn, k⟩ := h
    have hl := pr.length
    refine ⟨_, (pss_one (ps_ret (pe_callB (cr_min rfl) (by rfl) T.b_min (by decide +kernel) (pa_cons (pe_lc (own := [("step", 1)]) (tt := tYes) rfl sc_Curve_least.nd (pi_tup (pe_fld (pv 0) rfl)) (blkOk_by (N := ["self", "step"]) (sc := defScope s_Curve_least) (by decide +kernel)) (fun _ _ _ _ _ => (pg_name (i := 1) sc_Curve_least.nd rfl (Or.inl rfl))) (fun _ _ _ _ _ => pts_nil) (fun _ _ _ _ _ => (pe_callTy call_int1 (by rfl) T.b_int (by decide +kernel) (pa_cons (pe_ix (ix_tupK K) (pv 1) pe_int (fun _ _ => rfl)) pa_nil)))) pa_nil)))), ?_⟩
    refine ⟨_, rfl, _, _, _, _, _, rfl, hp, T.C_Curve.cl, T.na_Curve_steps, cvF_st _ _ _, st, rfl, ⟨_, SqT.of hv⟩, fun D nD => ?_⟩
    refine lc_tup (K := K) (a := st) (xs := vs) (fun i H' => H' D = some (.lst ((fs.map (fun x => V.int x.2)).take i)) ∧ Same H H') ⟨upd_same, Same.new1 nD⟩ (fun i H' _ ⟨_, sm⟩ => SqT.of (sm _ _ hv)) ?_ ?_
    · rintro i v H' hx ⟨hDD, sm⟩
      obtain ⟨q, x, rfl, hpx, hq⟩ := pr.get' hx
      have hi : i < fs.length := (List.getElem?_eq_some_iff.mp hpx).1
      refine ⟨rfl, _, rfl, q, _, 1, _, rfl, rfl, SqT.of (sm _ _ hq), rfl, .inl ⟨_, rfl, _, hDD, (by rw [List.length_take]; have := sizeLine_eq; omega), ?_, ?_⟩⟩
      · rw [upd_same, List.take_succ, List.getElem?_map, hpx]
        rfl
      · exact fun b o e => by rw [upd_ne (ne_of_none e nD)]; exact sm _ _ e
    · rintro H3 ⟨hD3, sm3⟩
      rw [List.take_of_length_le (by rw [List.length_map]; omega)] at hD3
      have e : fs.map (fun x => V.int x.2) = (fs.map (·.2)).map V.int := by rw [List.map_map]; rfl
      rw [e] at hD3
      exact ⟨D, fs.map (·.2), rfl, SqL.of hD3, by rw [List.length_map]; exact hn.1, fun m hm hle => k m _ hm hle sm3⟩
theorem c_Curve_greatest (T : Txt K mg ADay ACurve) : PrpF P w K mg base 1 ACurve "greatest" ["self"] (spHigh ACurve ADay) := by
  refine T.m_Curve_greatest.ok sc_Curve_greatest (fun vs H Q E h => ?_) (fun f cdv A outer s H vs Q E hr h => ?_)
  · obtain ⟨p, n, fs, rfl, _⟩ := h
    rfl
  · obtain ⟨p, n, fs, rfl, ⟨dx, d, st, sp, hp, hD, ⟨vs, hv, pr⟩, hsp⟩, hn, k⟩ := h
    have hl := pr.length
    refine ⟨_, (pss_one (ps_ret (pe_callB (cr_max rfl) (by rfl) T.b_max (by decide +kernel) (pa_cons (pe_lc (own := [("step", 1)]) (tt := tYes) rfl sc_Curve_greatest.nd (pi_tup (pe_fld (pv 0) rfl)) (blkOk_by (N := ["self", "step"]) (sc := defScope s_Curve_greatest) (by decide +kernel)) (fun _ _ _ _ _ => (pg_name (i := 1) sc_Curve_greatest.nd rfl (Or.inl rfl))) (fun _ _ _ _ _ => pts_nil) (fun _ _ _ _ _ => (pe_callTy call_int1 (by rfl) T.b_int (by decide +kernel) (pa_cons (pe_ix (ix_tupK K) (pv 1) pe_int (fun _ _ => rfl)) pa_nil)))) pa_nil)))), ?_⟩
    refine ⟨_, rfl, _, _, _, _, _, rfl, hp, T.C_Curve.cl, T.na_Curve_steps, cvF_st _ _ _, st, rfl, ⟨_, SqT.of hv⟩, fun D nD => ?_⟩
    refine lc_tup (K := K) (a := st) (xs := vs) (fun i H' => H' D = some (.lst ((fs.map (fun x => V.int x.2)).take i)) ∧ Same H H') ⟨upd_same, Same.new1 nD⟩ (fun i H' _ ⟨_, sm⟩ => SqT.of (sm _ _ hv)) ?_ ?_
    · rintro i v H' hx ⟨hDD, sm⟩
      obtain ⟨q, x, rfl, hpx, hq⟩ := pr.get' hx
      have hi : i < fs.length := (List.getElem?_eq_some_iff.mp hpx).1
      refine ⟨rfl, _, rfl, q, _, 1, _, rfl, rfl, SqT.of (sm _ _ hq), rfl, .inl ⟨_, rfl, _, hDD, (by rw [List.length_take]; have := sizeLine_eq; omega), ?_, ?_⟩⟩
      · rw [upd_same, List.take_succ, List.getElem?_map, hpx]
        rfl
      · exact fun b o e => by rw [upd_ne (ne_of_none e nD)]; exact sm _ _ e
    · rintro H3 ⟨hD3, sm3⟩
      rw [List.take_of_length_le (by rw [List.length_map]; omega)] at hD3
      have e : fs.map (fun x => V.int x.2) = (fs.map (·.2)).map V.int := by rw [List.map_map]; rfl
      rw [e] at hD3
      exact ⟨D, fs.map (·.2), rfl, SqL.of hD3, by rw [List.length_map]; exact hn.1, fun m hm hle => k m _ hm hle sm3⟩
end

/-! ### days and curves by forms -/
def dayR (C : Addr) (n : Int) : RP := ⟨fun H v => ∃ a, v = .ref a ∧ DayAt C H a n, fun s ⟨a, e, h⟩ => ⟨a, e, h.same s⟩⟩
def cvR (C CD : Addr) (n : Int) (fs : List (Int × Int)) : RP := ⟨fun H v => ∃ a, v = .ref a ∧ CvAt C CD H a n fs, fun s ⟨a, e, h⟩ => ⟨a, e, h.same s⟩⟩
def pr2 (x : Int × Int) : RP := tR [RL.I x.1, RL.I x.2]
def tr3 (x : Int × Int × Int) : RP := tR [RL.I x.1, RL.I x.2.1, RL.I x.2.2]
theorem rps_two {H : Hp} {a c : Int} {vs : List V} (r : Rps H [RL.I a, RL.I c] vs) : vs = [.int a, .int c] := by
  cases r with
  | cons h t =>
    cases t with
    | cons h2 t2 =>
      cases t2
      cases (show _ = V.int a from h)
      cases (show _ = V.int c from h2)
      rfl
theorem rps_three {H : Hp} {a c d : Int} {vs : List V} (r : Rps H [RL.I a, RL.I c, RL.I d] vs) : vs = [.int a, .int c, .int d] := by
  cases r with
  | cons h t =>
    cases t with
    | cons h2 t2 =>
      cases t2 with
      | cons h3 t3 =>
        cases t3
        cases (show _ = V.int a from h)
        cases (show _ = V.int c from h2)
        cases (show _ = V.int d from h3)
        rfl
theorem rps_prs {H : Hp} : ∀ {ps : List (Int × Int)} {vs : List V}, Rps H (ps.map pr2) vs → Prs H vs ps
  | [], _, .nil => .nil
  | x :: ps, _, .cons ⟨a, vs, e, h, r⟩ t => by
    subst e
    rw [rps_two r] at h
    exact .cons h (rps_prs t)
theorem prs_rps {H : Hp} : ∀ {vs : List V} {ps : List (Int × Int)}, Prs H vs ps → Rps H (ps.map pr2) vs
  | _, _, .nil => .nil
  | _, _, .cons h t => .cons ⟨_, _, rfl, h, .cons rfl (.cons rfl .nil)⟩ (prs_rps t)
theorem trs_rps {H : Hp} : ∀ {vs : List V} {ps : List (Int × Int × Int)}, Trs H vs ps → Rps H (ps.map tr3) vs
  | _, _, .nil => .nil
  | _, _, .cons h t => .cons ⟨_, _, rfl, h, .cons rfl (.cons rfl (.cons rfl .nil))⟩ (trs_rps t)
theorem lp_of {H : Hp} {v : V} {ps : List (Int × Int)} (h : (lR (ps.map pr2)).r H v) : ∃ a, v = .ref a ∧ LP H a ps := let ⟨a, vs, e, h, r⟩ := h; ⟨a, e, vs, h, rps_prs r⟩
theorem tp_of {H : Hp} {v : V} {ps : List (Int × Int)} (h : (tR (ps.map pr2)).r H v) : ∃ a, v = .ref a ∧ TP H a ps := let ⟨a, vs, e, h, r⟩ := h; ⟨a, e, vs, h, rps_prs r⟩
/-! what is kept where nothing that grows is told of -/
theorem Prs.nm {H H' : Hp} (n : NM H H') : ∀ {vs : List V} {ps : List (Int × Int)}, Prs H vs ps → Prs H' vs ps
  | _, _, .nil => .nil
  | _, _, .cons h t => .cons (n _ _ h fun z => z) (Prs.nm n t)
theorem Trs.nm {H H' : Hp} (n : NM H H') : ∀ {vs : List V} {ps : List (Int × Int × Int)}, Trs H vs ps → Trs H' vs ps
  | _, _, .nil => .nil
  | _, _, .cons h t => .cons (n _ _ h fun z => z) (Trs.nm n t)
theorem CvAt.nm {C CD a : Addr} {H H' : Hp} {n : Int} {fs : List (Int × Int)} (z : NM H H') (h : CvAt C CD H a n fs) : CvAt C CD H' a n fs := by
  obtain ⟨dx, d, st, sp, e, ⟨dy, hd⟩, ⟨vs, h1, r1⟩, ⟨ws, h2, r2⟩⟩ := h
  exact ⟨dx, d, st, sp, z _ _ e id, ⟨dy, z _ _ hd id⟩, ⟨vs, z _ _ h1 id, Prs.nm z r1⟩, ⟨ws, z _ _ h2 id, Trs.nm z r2⟩⟩
theorem DayAt.nm {C a : Addr} {H H' : Hp} {n : Int} (z : NM H H') (h : DayAt C H a n) : DayAt C H' a n := let ⟨dx, e⟩ := h; ⟨dx, z _ _ e id⟩
theorem pl_cv {C CD : Addr} {n : Int} {fs : List (Int × Int)} : Pl (cvR C CD n fs) := fun H H' v z ⟨a, e, h⟩ => ⟨a, e, h.nm z⟩
theorem isC_day {C : Addr} {n : Int} : IsC (dayR C n) C := fun H v ⟨a, e, dx, h⟩ => ⟨a, dx, _, e, h⟩
theorem isC_cv {C CD : Addr} {n : Int} {fs : List (Int × Int)} : IsC (cvR C CD n fs) C := fun H v ⟨a, e, dx, d, st, sp, h, _⟩ => ⟨a, dx, _, e, h⟩
def preDay (C : Addr) : List RP → (RP → Prop) → Prop := fun ps k => ∃ n, ps = [RL.I n] ∧ (1 ≤ n ∧ n ≤ 1000000000000) ∧ k (dayR C n)
theorem wk_day {C : Addr} : WkF (spDay C) (preDay C) := fun vs H Q E ⟨Hf, ps, k, s, r, ⟨n, hp, hn, kk⟩, c⟩ => by
  subst hp
  cases r with
  | cons r1 r2 =>
    cases r2
    cases (show _ = V.int n from r1)
    exact ⟨n, rfl, hn, fun q H' nq t h => c _ _ _ H' kk (froz_ex s t) ⟨q, rfl, h.nm (froz_nm (same_mb t))⟩⟩
def preCurve (C CD : Addr) : List RP → (RP → Prop) → Prop := fun ps k => ∃ n qs, (ps = [dayR CD n, lR (qs.map pr2)] ∨ ps = [dayR CD n, tR (qs.map pr2)]) ∧ StepsOk n qs ∧ qs.length ≤ 100 ∧ k (cvR C CD n (fewestP qs))
theorem wk_curve {C CD : Addr} : WkF (spCurve C CD) (preCurve C CD) := fun vs H Q E ⟨Hf, ps, k, s, r, ⟨n, qs, hp, ok, hl, kk⟩, c⟩ => by
  rcases hp with rfl | rfl
  · cases r with
    | cons r1 r2 =>
      cases r2 with
      | cons r2 r3 =>
        cases r3
        obtain ⟨d, rfl, hd⟩ := r1
        obtain ⟨a, rfl, ha⟩ := lp_of r2
        exact ⟨d, a, n, qs, rfl, hd.same s, .inl (ha.same s), ok, hl, fun q H' nq t h => c _ _ _ H' kk (froz_ex s t) ⟨q, rfl, h.nm (froz_nm (same_mb t))⟩⟩
  · cases r with
    | cons r1 r2 =>
      cases r2 with
      | cons r2 r3 =>
        cases r3
        obtain ⟨d, rfl, hd⟩ := r1
        obtain ⟨a, rfl, ha⟩ := tp_of r2
        exact ⟨d, a, n, qs, rfl, hd.same s, .inr (ha.same s), ok, hl, fun q H' nq t h => c _ _ _ H' kk (froz_ex s t) ⟨q, rfl, h.nm (froz_nm (same_mb t))⟩⟩
def preItem (C CD : Addr) : List RP → (RP → Prop) → Prop := fun ps k => ∃ n fs c, ps = [cvR C CD n fs, RL.I c] ∧ 0 < n ∧ (-(10 ^ 60) < c ∧ c < 10 ^ 60) ∧ k (RL.I (heightP fs (c % n)))
theorem wk_item {C CD : Addr} : WkF (spItem C CD) (preItem C CD) := fun vs H Q E ⟨Hf, ps, k, s, r, ⟨n, fs, m, hp, hn, hm, kk⟩, c⟩ => by
  subst hp
  cases r with
  | cons r1 r2 =>
    cases r2 with
    | cons r2 r3 =>
      cases r3
      obtain ⟨a, rfl, ha⟩ := r1
      cases (show _ = V.int m from r2)
      exact ⟨a, n, fs, m, rfl, ha.same s, hn, hm, c _ _ Hf H kk (.refl s) rfl⟩
theorem its_cv {K : PySem.W.Frag} {C CD : Addr} {n : Int} {fs : List (Int × Int)} : ItsO K C (spCvIter C CD) (cvR C CD n fs) ((spansP fs n).map tr3) := fun Hf H v s ⟨a, e, h⟩ => by
  obtain ⟨dx, d, st, sp, ha, hd, h1, ws, h2, r2⟩ := id h
  exact ⟨a, dx, _, sp, ws, e, s _ _ ha, h2, trs_rps r2, fun n' Q q => ⟨a, n, fs, dx, d, st, sp, rfl, s _ _ ha, hd.same s, h1.same s, ⟨ws, s _ _ h2, r2.same s⟩, q⟩⟩
theorem ht_cv {K : PySem.W.Frag} {C CD : Addr} {n : Int} {fs : List (Int × Int)} (cl : Cls K C) (i : IsT K C) : HasT K (cvR C CD n fs) (.ref C) := fun H v ⟨a, e, dx, d, st, sp, h, _⟩ => by
  subst e
  exact .base (.ins h cl i.ha i.hn i.htk i.hm)
theorem ht_day {K : PySem.W.Frag} {C : Addr} {n : Int} (cl : Cls K C) (i : IsT K C) : HasT K (dayR C n) (.ref C) := fun H v ⟨a, e, dx, h⟩ => by
  subst e
  exact .base (.ins h cl i.ha i.hn i.htk i.hm)
/-- == of curves -/
def preCvEq (K : PySem.W.Frag) (C CD : Addr) : List RP → (RP → Prop) → Prop := fun ps k => ∃ n fs q, ps = [cvR C CD n fs, q] ∧ ((∃ m gs, q = cvR C CD m gs ∧ k (B (decide (n = m ∧ fs = gs)))) ∨ (∃ t, HasT K q t ∧ PySem.W.kitOne K t (.ref C) = some false ∧ k (B false)))
theorem wk_cvEq {K : PySem.W.Frag} {C CD : Addr} : WkF (spCvEq K C CD) (preCvEq K C CD) := fun vs H Q E ⟨Hf, ps, k, s, r, ⟨n, fs, q, hp, hq⟩, c⟩ => by
  subst hp
  cases r with
  | cons r1 r2 =>
    cases r2 with
    | cons r2 r3 =>
      cases r3
      obtain ⟨a, rfl, ha⟩ := r1
      rcases hq with ⟨m, gs, rfl, kk⟩ | ⟨t, ht, hk, kk⟩
      · obtain ⟨a2, rfl, ha2⟩ := r2
        exact ⟨a, n, fs, _, rfl, ha.same s, .inl ⟨a2, m, gs, rfl, ha2.same s, c _ _ Hf H kk (.refl s) rfl⟩⟩
      · exact ⟨a, n, fs, _, rfl, ha.same s, .inr ⟨t, ht _ _ (RP.m _ s r2), hk, c _ _ Hf H kk (.refl s) rfl⟩⟩
def preDayEq (K : PySem.W.Frag) (C : Addr) : List RP → (RP → Prop) → Prop := fun ps k => ∃ n q, ps = [dayR C n, q] ∧ ((∃ m, q = dayR C m ∧ k (B (decide (n = m)))) ∨ (∃ t, HasT K q t ∧ PySem.W.kitOne K t (.ref C) = some false ∧ k (B false)))
theorem wk_dayEq {K : PySem.W.Frag} {C : Addr} : WkF (spDayEq K C) (preDayEq K C) := fun vs H Q E ⟨Hf, ps, k, s, r, ⟨n, q, hp, hq⟩, c⟩ => by
  subst hp
  cases r with
  | cons r1 r2 =>
    cases r2 with
    | cons r2 r3 =>
      cases r3
      obtain ⟨a, rfl, ha⟩ := r1
      rcases hq with ⟨m, rfl, kk⟩ | ⟨t, ht, hk, kk⟩
      · obtain ⟨a2, rfl, ha2⟩ := r2
        exact ⟨a, n, _, rfl, ha.same s, .inl ⟨a2, m, rfl, ha2.same s, c _ _ Hf H kk (.refl s) rfl⟩⟩
      · exact ⟨a, n, _, rfl, ha.same s, .inr ⟨t, ht _ _ (RP.m _ s r2), hk, c _ _ Hf H kk (.refl s) rfl⟩⟩
def preLow (C CD : Addr) : List RP → (RP → Prop) → Prop := fun ps k => ∃ n fs, ps = [cvR C CD n fs] ∧ (0 < fs.length ∧ fs.length ≤ 100) ∧ ∀ m, m ∈ fs.map (·.2) → (∀ y ∈ fs.map (·.2), m ≤ y) → k (RL.I m)
def preHigh (C CD : Addr) : List RP → (RP → Prop) → Prop := fun ps k => ∃ n fs, ps = [cvR C CD n fs] ∧ (0 < fs.length ∧ fs.length ≤ 100) ∧ ∀ m, m ∈ fs.map (·.2) → (∀ y ∈ fs.map (·.2), y ≤ m) → k (RL.I m)
theorem wk_low {C CD : Addr} : WkF (spLow C CD) (preLow C CD) := fun vs H Q E ⟨Hf, ps, k, s, r, ⟨n, fs, hp, hl, kk⟩, c⟩ => by
  subst hp
  cases r with
  | cons r1 r2 =>
    cases r2
    obtain ⟨a, rfl, ha⟩ := r1
    exact ⟨a, n, fs, rfl, ha.same s, hl, fun m H' h1 h2 t => c _ _ Hf H' (kk m h1 h2) (.of s t) rfl⟩
theorem wk_high {C CD : Addr} : WkF (spHigh C CD) (preHigh C CD) := fun vs H Q E ⟨Hf, ps, k, s, r, ⟨n, fs, hp, hl, kk⟩, c⟩ => by
  subst hp
  cases r with
  | cons r1 r2 =>
    cases r2
    obtain ⟨a, rfl, ha⟩ := r1
    exact ⟨a, n, fs, rfl, ha.same s, hl, fun m H' h1 h2 t => c _ _ Hf H' (kk m h1 h2) (.of s t) rfl⟩
theorem fld_steps {K : PySem.W.Frag} {C CD : Addr} {n : Int} {fs : List (Int × Int)} (cl : Cls K C) (na : PySem.W.findIn K (.ref C) "steps" = some none) : Fld K (cvR C CD n fs) "steps" (tR (fs.map pr2)) := fun H v ⟨a, e, dx, d, st, sp, h, hd, ⟨vs, h1, r1⟩, _⟩ =>
  ⟨a, C, dx, _, _, e, h, cl, na, cvF_st _ _ _, st, vs, rfl, h1, prs_rps r1⟩
theorem fld_day {K : PySem.W.Frag} {C CD : Addr} {n : Int} {fs : List (Int × Int)} (cl : Cls K C) (na : PySem.W.findIn K (.ref C) "day" = some none) : Fld K (cvR C CD n fs) "day" (dayR CD n) := fun H v ⟨a, e, dx, d, st, sp, h, hd, _⟩ =>
  ⟨a, C, dx, _, _, e, h, cl, na, cvF_d _ _ _, d, rfl, hd⟩

def spInteger : Sp := fun vs H Q _ => ∃ p l ns b, vs = [.ref p] ∧ Pn p l ns b H ∧ b ≤ 999900 ∧ ∀ z H', (-(10 ^ 60) < z ∧ z < 10 ^ 60) → Pn p l ns (b + 2) H' → But p H H' → Q (.int z) H'
def spLawFew : Sp := fun vs H Q _ => ∃ a ps, vs = [.ref a] ∧ LP H a ps ∧ ps.length ≤ 100 ∧ ∀ q H', H q = none → Same H H' → LP H' q (fewestP ps) → Q (.ref q) H'
section
variable {P : Program} {w : World} {K : PySem.W.Frag} {mg : Str → Option Value} {base : Heap} {ADay ACurve : Addr}
theorem c_law_integer (T : Txt K mg ADay ACurve) : CalF P w K mg base 3 "_law_integer" ["pen"] spInteger := by
  have c_law_pick := c_law_pick (P := P) (w := w) (base := base) T
  have c_law_draw := c_law_draw (P := P) (w := w) (base := base) T
  refine T.d_law_integer.ok sc_law_integer (fun vs H Q E h => ?_) (fun f cdv A outer s H vs Q E hr h => ?_)
  · obtain ⟨p, l, ns, b, rfl, _⟩ := h
    rfl
  · obtain ⟨p, l, ns, b, rfl, hP, hb, k⟩ := h
    refine ⟨_, (pss_one (ps_ret (pe_f c_law_pick hr (pa_cons (pv 0) (pa_cons (pe_lst (pa_cons pe_int (pa_cons pe_int (pa_cons pe_int (pa_cons (pe_un un_neg pe_int) (pa_cons pe_int (pa_cons pe_int (pa_cons (pe_un un_neg (pe_op op_pow pe_int pe_int)) (pa_cons (pe_op op_pow pe_int pe_int) (pa_cons (pe_op op_sub (pe_f c_law_draw hr (pa_cons (pv 0) (pa_cons pe_int pa_nil))) pe_int) pa_nil)))))))))) pa_nil))))), ?_⟩
    refine ⟨_, rfl, _, rfl, _, _, rfl, rfl, ⟨by decide, by decide, by decide⟩, _, rfl, _, _, rfl, rfl, ⟨by decide, by decide, by decide⟩, ?_⟩
    refine ⟨_, rfl, p, l, ns, b, _, rfl, hP, by omega, ⟨by decide, by decide⟩, fun n1 H1 hn1 hP1 hB1 => ⟨_, _, rfl, rfl, (by show 9 ≤ sizeLine; decide), fun q nq => ?_⟩⟩
    obtain ⟨op, hop⟩ := hP1.at_
    refine ⟨p, l, ns, _, q, _, rfl, hP1.same (Same.new1 nq), by omega, SqL.of upd_same, (ne_of_none hop nq).symm, ⟨by simp, by simp⟩, fun v H2 hv hP2 hB2 => ?_⟩
    have e20 : (10 : Int) ^ Int.toNat 20 = 10 ^ 20 := by decide
    have e59 : (10 : Int) ^ Int.toNat 59 = 10 ^ 59 := by decide
    obtain ⟨z, rfl, hz⟩ : ∃ z, v = V.int z ∧ (-(10 ^ 60) < z ∧ z < 10 ^ 60) := by
      have hv : v ∈ [V.int 0, V.int 0, V.int 1, V.int (-1), V.int 2, V.int 40, V.int (-(10 ^ Int.toNat 20)), V.int (10 ^ Int.toNat 59), V.int (n1 - 4)] := hv
      rw [e20, e59] at hv
      simp only [List.mem_cons, List.not_mem_nil, or_false] at hv
      rcases hv with rfl | rfl | rfl | rfl | rfl | rfl | rfl | rfl | rfl <;> exact ⟨_, rfl, by omega, by omega⟩
    exact k z H2 hz (hP2.mono (by omega)) ((hB1.trans (But.new nq)).trans hB2)
theorem c_law_fewest (T : Txt K mg ADay ACurve) : CalF P w K mg base 1 "_law_fewest" ["plain"] spLawFew := by
  refine T.d_law_fewest.ok sc_law_fewest (fun vs H Q E h => ?_) (fun f cdv A outer s H vs Q E hr h => ?_)
  · obtain ⟨a, ps, rfl, _⟩ := h
    rfl
  · obtain ⟨a, ps, rfl, ⟨vs, hv, pr⟩, hn, k⟩ := h
    have hl := pr.length
    refine ⟨_, (pss_one (ps_ret (pe_lc (own := [("k", 1)]) rfl sc_law_fewest.nd (pi_range1 rfl T.b_range (pa_cons (pe_callB call_len_seq (by rfl) T.b_len (by decide +kernel) (pa_cons (pv 0) pa_nil)) pa_nil)) (blkOk_by (N := ["plain", "k"]) (sc := defScope s_law_fewest) (by decide +kernel)) (fun _ _ _ _ _ => (pg_name (i := 1) sc_law_fewest.nd rfl (Or.inl rfl))) (fun _ _ _ _ _ => (pts_one (PW.pt (pw_or (pt_cmpR op_eqi (pv 1) pe_int (nomark _)) (pw_or1 (pt_cmpR op_nei (pe_ix (ix_tupK K) (pe_ix (ix_listK K) (pv 0) (pv 1) (fun _ _ => rfl)) pe_int (fun _ _ => rfl)) (pe_ix (ix_tupK K) (pe_ix (ix_listK K) (pv 0) (pe_op op_sub (pv 1) pe_int) (fun _ _ => rfl)) pe_int (fun _ _ => rfl)) (nomark _))))))) (fun _ _ _ _ _ => (pe_ix (ix_listK K) (pv 0) (pv 1) (fun _ _ => rfl)))))), ?_⟩
    refine ⟨_, rfl, a, vs, rfl, .inl (SqL.of hv), _, rfl, (by omega), (by omega), fun D nD => ?_⟩
    refine lc_range (lo := 0) (n := ((vs.length : Nat) : Int).toNat) (fun i H' => ∃ ws, H' D = some (.lst ws) ∧ Prs H' ws (fewestP (ps.take i)) ∧ Same H H') ⟨[], upd_same, .nil, Same.new1 nD⟩ ?_ ?_
    · rintro i H' hi ⟨ws, hw, pw, sm⟩
      have i1 : i < ps.length := by omega
      obtain ⟨q1, g1, t1⟩ := pr.get (List.getElem?_eq_getElem i1)
      have hpx := List.getElem?_eq_getElem i1
      have lw := pw.length
      have ll := fewestP_len (ps.take i)
      have lt : (ps.take i).length ≤ i := by rw [List.length_take]; omega
      have nxt : fwStep (fewestP (ps.take i)) ps[i] = fewestP (ps.take i) ++ [ps[i]] → ∃ w2, upd H' D (.lst (ws ++ [.ref q1])) D = some (.lst w2) ∧ Prs (upd H' D (.lst (ws ++ [.ref q1]))) w2 (fewestP (ps.take (i + 1))) ∧ Same H (upd H' D (.lst (ws ++ [.ref q1]))) := by
        intro e
        refine ⟨_, upd_same, ?_, fun b o eb => by rw [upd_ne (ne_of_none eb nD)]; exact sm _ _ eb⟩
        rw [fewestP_take hpx, e]
        exact (pw.append (.cons (sm _ _ t1) .nil)).but But.upd hw
      refine ⟨rfl, _, rfl, _, _, rfl, rfl, _, rfl, ?_⟩
      by_cases i0 : i = 0
      · refine iteD (by omega) ?_
        refine ⟨_, rfl, _, rfl, a, vs, _, _, rfl, rfl, SqL.of (sm _ _ hv), at_i (i := i) (by omega) g1, ws, hw, (by have := sizeLine_eq; omega), nxt ?_⟩
        subst i0
        rfl
      · refine iteDF (by omega) ?_
        have im : i - 1 < ps.length := by omega
        obtain ⟨q0, g0, t0⟩ := pr.get (List.getElem?_eq_getElem im)
        have la := fewest_last (List.getElem?_eq_getElem im)
        rw [show i - 1 + 1 = i by omega] at la
        refine ⟨_, rfl, _, rfl, a, vs, _, _, rfl, rfl, SqL.of (sm _ _ hv), at_i (i := i) (by omega) g1, q1, _, 1, _, rfl, rfl, SqT.of (sm _ _ t1), rfl, ?_⟩
        refine ⟨_, rfl, _, rfl, _, _, rfl, rfl, a, vs, _, _, rfl, rfl, SqL.of (sm _ _ hv), at_i (i := i - 1) (by omega) g0, q0, _, 1, _, rfl, rfl, SqT.of (sm _ _ t0), rfl, _, _, rfl, rfl, _, rfl, ?_⟩
        by_cases e2 : ps[i].2 = ps[i - 1].2
        · refine iteNF (by simp [e2]) ⟨ws, hw, ?_, sm⟩
          rw [fewestP_take hpx]
          have e3 : fwStep (fewestP (ps.take i)) ps[i] = fewestP (ps.take i) := by
            unfold fwStep
            rw [if_pos (by rw [la, e2])]
          rw [e3]
          exact pw
        · refine iteN (by simp [e2]) ?_
          refine ⟨_, rfl, _, rfl, a, vs, _, _, rfl, rfl, SqL.of (sm _ _ hv), at_i (i := i) (by omega) g1, ws, hw, (by have := sizeLine_eq; omega), nxt ?_⟩
          unfold fwStep
          rw [if_neg (by rw [la]; simp; exact fun z => e2 z.symm)]
    · rintro H3 ⟨ws, hw, pw, sm⟩
      have e : ((vs.length : Nat) : Int).toNat = ps.length := by omega
      rw [e, List.take_length] at pw
      exact k D H3 nD sm ⟨ws, hw, pw⟩
def spLawAt : Sp := fun vs H Q _ => ∃ a ps c n, vs = [.ref a, .int c] ∧ LP H a ps ∧ StepsOk n ps ∧ ps.length ≤ 100 ∧ 0 ≤ c ∧ ∀ H', Same H H' → Q (.int (heightP ps c)) H'
theorem c_law_at (T : Txt K mg ADay ACurve) : CalF P w K mg base 1 "_law_at" ["plain", "clock"] spLawAt := by
  refine T.d_law_at.ok sc_law_at (fun vs H Q E h => ?_) (fun f cdv A outer s H vs Q E hr h => ?_)
  · obtain ⟨a, ps, c, n, rfl, _⟩ := h
    rfl
  · obtain ⟨a, ps, c, n, rfl, ⟨vs, hv, pr⟩, ok, hn, hc, k⟩ := h
    have hl := pr.length
    refine ⟨_, (pss_one (ps_ret (pe_ix ix_list (pe_lc (own := [("first", 2), ("value", 3)]) rfl sc_law_at.nd (pi_list (pv 0)) (blkOk_by (N := ["plain", "clock", "first", "value"]) (sc := defScope s_law_at) (by decide +kernel)) (fun _ _ _ _ _ => (pg_tupK K (n := 2) rfl (pgs_cons (pg_name (i := 2) sc_law_at.nd rfl (Or.inl rfl)) (pgs_cons (pg_name (i := 3) sc_law_at.nd rfl (Or.inl rfl)) pgs_nil)))) (fun _ _ _ _ _ => (pts_one (pt_cmpR op_le (pv 2) (pv 1) (nomark _)))) (fun _ _ _ _ _ => (pv 3))) (pe_un un_neg pe_int) (fun _ _ => rfl)))), ?_⟩
    refine ⟨_, rfl, a, rfl, ⟨_, SqL.of hv⟩, fun D nD => ?_⟩
    refine lc_list (K := K) (a := a) (xs := vs) (fun i H' => H' D = some (.lst ((((ps.take i).filter fun x => decide (x.1 ≤ c)).map (·.2)).map V.int)) ∧ Same H H') ⟨upd_same, Same.new1 nD⟩ (fun i H' _ ⟨_, sm⟩ => SqL.of (sm _ _ hv)) ?_ ?_
    · rintro i v H' hx ⟨hw, sm⟩
      obtain ⟨q, x, rfl, hp, hq⟩ := pr.get' hx
      have et : ps.take (i + 1) = ps.take i ++ [x] := by rw [List.take_succ, hp]; rfl
      have lf : ((((ps.take i).filter fun x => decide (x.1 ≤ c)).map (·.2)).map V.int).length ≤ 100 := by
        rw [List.length_map, List.length_map]
        have h1 := List.length_filter_le (fun x : Int × Int => decide (x.1 ≤ c)) (ps.take i)
        have h2 : (ps.take i).length ≤ ps.length := by rw [List.length_take]; omega
        omega
      refine ⟨q, _, rfl, SqT.of (sm _ _ hq), rfl, _, _, rfl, _, _, rfl, rfl, rfl, _, rfl, _, rfl, _, _, rfl, rfl, _, rfl, ?_⟩
      by_cases e : x.1 ≤ c
      · refine iteD e ⟨_, rfl, _, hw, (by have := sizeLine_eq; omega), ?_, fun b o eb => by rw [upd_ne (ne_of_none eb nD)]; exact sm _ _ eb⟩
        rw [upd_same, et, List.filter_append, List.filter_cons_of_pos (by simpa using e)]
        simp
      · refine iteDF e ⟨?_, sm⟩
        rw [hw, et, List.filter_append, List.filter_cons_of_neg (by simpa using e)]
        simp
    · rintro H3 ⟨hw, sm⟩
      rw [hl, List.take_length] at hw
      have z0 := ok.z _ (List.getElem?_eq_getElem ok.ne)
      have ne : ((ps.filter fun x => decide (x.1 ≤ c)).map (·.2)) ≠ [] := by
        intro z
        have z := List.map_eq_nil_iff.mp z
        have m0 : ps[0]'ok.ne ∈ ps.filter fun x => decide (x.1 ≤ c) := List.mem_filter.mpr ⟨List.getElem_mem _, by rw [z0]; simpa using hc⟩
        rw [z] at m0
        cases m0
      have hg := height_go c ps 0
      have l0 : 0 < ((ps.filter fun x => decide (x.1 ≤ c)).map (·.2)).length := List.length_pos_iff.mpr ne
      rw [List.getLast?_eq_getElem?, List.getElem?_eq_getElem (by omega)] at hg
      have e2 : ((((ps.filter fun x => decide (x.1 ≤ c)).map (·.2)).map V.int))[((((ps.filter fun x => decide (x.1 ≤ c)).map (·.2)).map V.int)).length - 1]? = some (V.int (heightP ps c)) := by
        rw [List.length_map, List.getElem?_map, List.getElem?_eq_getElem (by omega)]
        show some (V.int _) = _
        rw [show heightP ps c = _ from hg]
        rfl
      exact ⟨_, rfl, D, _, _, _, rfl, rfl, SqL.of hw, at_last e2, k _ sm⟩
def spLawSpans : Sp := fun vs H Q _ => ∃ a ps n, vs = [.ref a, .int n] ∧ LP H a ps ∧ (0 < ps.length ∧ ps.length ≤ 100) ∧ ∀ q H', H q = none → Same H H' → L3 H' q (spansP (fewestP ps) n) → Q (.ref q) H'
theorem c_law_spans (T : Txt K mg ADay ACurve) : CalF P w K mg base 2 "_law_spans" ["plain", "length"] spLawSpans := by
  have c_law_fewest := c_law_fewest (P := P) (w := w) (base := base) T
  refine T.d_law_spans.ok sc_law_spans (fun vs H Q E h => ?_) (fun f cdv A outer s H vs Q E hr h => ?_)
  · obtain ⟨a, ps, n, rfl, _⟩ := h
    rfl
  · obtain ⟨a, ps, n, rfl, hA, hn, k⟩ := h
    refine ⟨_, (pss_cons (ps_par (i := 2) (j := 3) (by rfl) sc_law_spans.nd rfl rfl (by decide) rfl rfl (pa_cons (pe_f c_law_fewest hr (pa_cons (pv 0) pa_nil)) (pa_cons (pe_lst pa_nil) pa_nil)) (by rfl))
      (pss_cons (ps_for PassesOwn.never rfl (pi_range1 rfl T.b_range (pa_cons (pe_callB call_len_seq (by rfl) T.b_len (by decide +kernel) (pa_cons (pv 2) pa_nil)) pa_nil)) (pg_name (i := 4) sc_law_spans.nd rfl (Or.inl rfl)) (pss_cons (ps_set (i := 5) sc_law_spans.nd rfl (Or.inl rfl) (pe_ifExp (pt_cmpR op_lt (pe_op op_add (pv 4) pe_int) (pe_callB call_len_seq (by rfl) T.b_len (by decide +kernel) (pa_cons (pv 2) pa_nil)) (nomark _)) (pe_ix ix_tup (pe_ix ix_list (pv 2) (pe_op op_add (pv 4) pe_int) (fun _ _ => rfl)) pe_int (fun _ _ => rfl)) (pv 1)))
      (pss_one (ps_expr (pe_bm PySem.F.plainAttrs_list PySem.F.slot_list_append PySem.F.type_list_append mt_append (pv 3) (pa_cons (pe_tup (pa_cons (pe_ix ix_tup (pe_ix ix_list (pv 2) (pv 4) (fun _ _ => rfl)) pe_int (fun _ _ => rfl)) (pa_cons (pe_op op_sub (pv 5) pe_int) (pa_cons (pe_ix ix_tup (pe_ix ix_list (pv 2) (pv 4) (fun _ _ => rfl)) pe_int (fun _ _ => rfl)) pa_nil)))) pa_nil))))))
      (pss_one (ps_ret (pv 3))))), ?_⟩
    refine ⟨_, rfl, a, ps, rfl, hA, hn.2, fun fw H1 nfw s1 hF => ?_⟩
    refine ⟨(by show 0 ≤ sizeLine; decide), fun fd nfd => ⟨_, _, rfl, ?_⟩⟩
    have lp := fewestP_pos hn.1
    have ll := fewestP_len ps
    obtain ⟨vs, hv, pr⟩ := id hF
    have hl := pr.length
    have s2 := Same.new1 (o := .lst []) nfd
    refine ⟨_, rfl, fw, vs, rfl, .inl (SqL.of (s2 _ _ hv)), _, rfl, (by omega), (by omega), for_range (n := ((vs.length : Nat) : Int).toNat) (fun i σ H' => ∃ x y : Option V, σ = [some (.ref a), some (.int n), some (.ref fw), some (.ref fd), x, y] ∧ (∃ ws, H' fd = some (.lst ws) ∧ Trs H' ws ((spansP (fewestP ps) n).take i)) ∧ Same H1 H') ⟨_, _, rfl, ⟨[], upd_same, .nil⟩, s2⟩ ?_ ?_⟩
    · rintro i σ H' hi ⟨x0, y0, rfl, ⟨ws, hw, tw⟩, sm⟩
      have i1 : i < (fewestP ps).length := by omega
      have hpx := List.getElem?_eq_getElem i1
      obtain ⟨q1, g1, t1⟩ := pr.get hpx
      have lw := tw.length
      have lt : ((spansP (fewestP ps) n).take i).length ≤ i := by rw [List.length_take]; omega
      have fin : ∀ e, (endsP (fewestP ps) n)[i]? = some e → ∀ t, H' t = none → (∃ w2, upd (upd H' t (.tup [.int (fewestP ps)[i].1, .int e, .int (fewestP ps)[i].2])) fd (.lst (ws ++ [.ref t])) fd = some (.lst w2) ∧ Trs (upd (upd H' t (.tup [.int (fewestP ps)[i].1, .int e, .int (fewestP ps)[i].2])) fd (.lst (ws ++ [.ref t]))) w2 ((spansP (fewestP ps) n).take (i + 1))) ∧ Same H1 (upd (upd H' t (.tup [.int (fewestP ps)[i].1, .int e, .int (fewestP ps)[i].2])) fd (.lst (ws ++ [.ref t]))) := by
        intro e he t nt
        have sp : (spansP (fewestP ps) n)[i]? = some ((fewestP ps)[i].1, e, (fewestP ps)[i].2) := by
          unfold spansP
          rw [List.getElem?_zipWith, hpx, he]
        refine ⟨⟨_, upd_same, ?_⟩, fun b o eb => by rw [upd_ne (ne_of_none eb nfd), upd_ne (ne_of_none (sm _ _ eb) nt)]; exact sm _ _ eb⟩
        rw [List.take_succ, sp]
        exact ((tw.same (Same.new1 nt)).append (.cons upd_same .nil)).but But.upd (Same.new1 nt _ _ hw)
      refine ⟨_, rfl, _, _, rfl, rfl, _, rfl, fw, vs, rfl, .inl (SqL.of (sm _ _ hv)), _, _, rfl, rfl, _, rfl, ?_⟩
      by_cases c : i + 1 < (fewestP ps).length
      · refine iteD (by omega) ?_
        obtain ⟨q2, g2, t2⟩ := pr.get (List.getElem?_eq_getElem c)
        have E := endsP_in (n := n) (List.getElem?_eq_getElem c)
        refine ⟨_, rfl, _, rfl, _, _, rfl, rfl, fw, vs, _, _, rfl, rfl, SqL.of (sm _ _ hv), at_i (i := i + 1) (by omega) g2, q2, _, 0, _, rfl, rfl, SqT.of (sm _ _ t2), rfl, _, rfl, .inl ⟨rfl, _, SqL.of hw⟩, _, rfl, _, rfl, fw, vs, _, _, rfl, rfl, SqL.of (sm _ _ hv), at_i (i := i) (by omega) g1, q1, _, 0, _, rfl, rfl, SqT.of (sm _ _ t1), rfl, _, rfl, _, _, rfl, rfl, ?_⟩
        refine ⟨_, rfl, _, rfl, fw, vs, _, _, rfl, rfl, SqL.of (sm _ _ hv), at_i (i := i) (by omega) g1, q1, _, 1, _, rfl, rfl, SqT.of (sm _ _ t1), rfl, (by show 3 ≤ sizeLine; decide), fun t nt => ?_⟩
        obtain ⟨n1, n2⟩ := fin _ E t nt
        exact ⟨fd, ws, .ref t, rfl, rfl, Same.new1 nt _ _ hw, (by have := sizeLine_eq; omega), _, _, rfl, n1, n2⟩
      · refine iteDF (by omega) ?_
        have E := endsP_out (ps := fewestP ps) (n := n) (i := i) (by omega)
        refine ⟨_, rfl, _, rfl, .inl ⟨rfl, _, SqL.of hw⟩, _, rfl, _, rfl, fw, vs, _, _, rfl, rfl, SqL.of (sm _ _ hv), at_i (i := i) (by omega) g1, q1, _, 0, _, rfl, rfl, SqT.of (sm _ _ t1), rfl, _, rfl, _, _, rfl, rfl, ?_⟩
        refine ⟨_, rfl, _, rfl, fw, vs, _, _, rfl, rfl, SqL.of (sm _ _ hv), at_i (i := i) (by omega) g1, q1, _, 1, _, rfl, rfl, SqT.of (sm _ _ t1), rfl, (by show 3 ≤ sizeLine; decide), fun t nt => ?_⟩
        obtain ⟨n1, n2⟩ := fin _ E t nt
        exact ⟨fd, ws, .ref t, rfl, rfl, Same.new1 nt _ _ hw, (by have := sizeLine_eq; omega), _, _, rfl, n1, n2⟩
    · rintro σ H' ⟨x0, y0, rfl, ⟨ws, hw, tw⟩, sm⟩
      have lsp : (spansP (fewestP ps) n).length = ((vs.length : Nat) : Int).toNat := by
        unfold spansP
        rw [List.length_zipWith, endsP_len lp]
        omega
      rw [← lsp, List.take_length] at tw
      exact ⟨_, rfl, k fd H' (s1.free nfd) (s1.trans sm) ⟨ws, hw, tw⟩⟩
end
theorem lp_froz {Hf H H' : Hp} {q : Addr} {ps : List (Int × Int)} (h : LP H' q ps) (n : H q = none) (t : Same H H') : (lR (ps.map pr2)).r (froz Hf H H') (.ref q) := by
  obtain ⟨vs, hv, r⟩ := h
  exact ⟨q, vs, rfl, froz_at hv (.inr n) (same_mb t), prs_rps (Prs.nm (froz_nm (same_mb t)) r)⟩
def preLawFew : List RP → (RP → Prop) → Prop := fun ps k => ∃ qs, ps = [lR (qs.map pr2)] ∧ qs.length ≤ 100 ∧ k (lR ((fewestP qs).map pr2))
theorem wk_lawFew : WkF spLawFew preLawFew := fun vs H Q E ⟨Hf, ps, k, s, r, ⟨qs, hp, hl, kk⟩, c⟩ => by
  subst hp
  cases r with
  | cons r1 r2 =>
    cases r2
    obtain ⟨a, rfl, ha⟩ := lp_of r1
    exact ⟨a, qs, rfl, ha.same s, hl, fun q H' nq t h => c _ _ _ H' kk (froz_ex s t) (lp_froz h nq t)⟩
def preLawAt : List RP → (RP → Prop) → Prop := fun ps k => ∃ n qs m, ps = [lR (qs.map pr2), RL.I m] ∧ StepsOk n qs ∧ qs.length ≤ 100 ∧ 0 ≤ m ∧ k (RL.I (heightP qs m))
theorem wk_lawAt : WkF spLawAt preLawAt := fun vs H Q E ⟨Hf, ps, k, s, r, ⟨n, qs, m, hp, ok, hl, hm, kk⟩, c⟩ => by
  subst hp
  cases r with
  | cons r1 r2 =>
    cases r2 with
    | cons r2 r3 =>
      cases r3
      obtain ⟨a, rfl, ha⟩ := lp_of r1
      cases (show _ = V.int m from r2)
      exact ⟨a, qs, m, n, rfl, ha.same s, ok, hl, hm, fun H' t => c _ _ Hf H' kk (.of s t) rfl⟩
def preLawSpans : List RP → (RP → Prop) → Prop := fun ps k => ∃ qs n, ps = [lR (qs.map pr2), RL.I n] ∧ (0 < qs.length ∧ qs.length ≤ 100) ∧ k (lR ((spansP (fewestP qs) n).map tr3))
theorem wk_lawSpans : WkF spLawSpans preLawSpans := fun vs H Q E ⟨Hf, ps, k, s, r, ⟨qs, n, hp, hl, kk⟩, c⟩ => by
  subst hp
  cases r with
  | cons r1 r2 =>
    cases r2 with
    | cons r2 r3 =>
      cases r3
      obtain ⟨a, rfl, ha⟩ := lp_of r1
      cases (show _ = V.int n from r2)
      refine ⟨a, qs, n, rfl, ha.same s, hl, fun q H' nq t h => ?_⟩
      obtain ⟨vs, hv, r⟩ := h
      exact c _ _ _ H' kk (froz_ex s t) ⟨q, vs, rfl, froz_at hv (.inr nq) (same_mb t), trs_rps (Trs.nm (froz_nm (same_mb t)) r)⟩
def preInteger : List RP → Int → (RP → Int → Prop) → Prop := fun ps b k => ps = [] ∧ b ≤ 990000 ∧ ∀ n : Int, (-(10 ^ 60) < n ∧ n < 10 ^ 60) → k (RL.I n) (b + 2)
theorem wk_integer : WkP spInteger preInteger := fun vs H Q E h => by
  obtain ⟨x, b, vs', Hf, ps, k, rfl, hP, hn, s, r, ⟨hp, hb, kk⟩, c⟩ := h
  subst hp
  cases r
  refine ⟨x.1, x.2.1, x.2.2, b, rfl, hP, by omega, fun n H' hn' hP' hB => ?_⟩
  obtain ⟨sp, lf, h1, _⟩ := id hP
  obtain ⟨f1, f2, f3⟩ := froz_but s hB hn ⟨_, h1⟩
  exact c (RL.I n) (.int n) _ _ H' (kk n hn') f1 f2 hB hP' f3 rfl
section
variable {P : Program} {w : World} {K : PySem.W.Frag} {mg : Str → Option Value} {base : Heap} {ADay ACurve : Addr}
/-- what the law draws: steps of a day of n minutes -/
structure DrawnOk (n : Int) (qs : List (Int × Int)) : Prop where
  st : StepsOk n qs
  len : qs.length ≤ 8
  sm : ∀ x ∈ qs, -(10 ^ 60) < x.2 ∧ x.2 < 10 ^ 60
/-- the clocks that the law draws -/
structure MarksOk (n : Int) (ms : List Int) : Prop where
  ne : 0 < ms.length
  z : ms[0]? = some 0
  asc : ∀ (i : Nat) x y, ms[i]? = some x → ms[i + 1]? = some y → x < y
  inn : ∀ x ∈ ms, 0 ≤ x ∧ x < n
theorem MarksOk.one {n : Int} (h : 1 ≤ n) : MarksOk n [0] := ⟨by decide, rfl, fun i x y _ h => by simp at h, fun x hx => by simp at hx; omega⟩
theorem MarksOk.snoc {n c l : Int} {ms : List Int} (ok : MarksOk n ms) (hl : ms[ms.length - 1]? = some l) (h1 : l < c) (h2 : c < n) : MarksOk n (ms ++ [c]) := by
  have l0 := (ok.inn l (List.mem_of_getElem? hl)).1
  refine ⟨by simp, by rw [List.getElem?_append_left ok.ne]; exact ok.z, fun i x y hx hy => ?_, fun x hx => ?_⟩
  · by_cases c1 : i + 1 < ms.length
    · rw [List.getElem?_append_left (by omega)] at hx
      rw [List.getElem?_append_left c1] at hy
      exact ok.asc i x y hx hy
    · have hi : i + 1 < (ms ++ [c]).length := (List.getElem?_eq_some_iff.mp hy).1
      rw [List.length_append, List.length_singleton] at hi
      rw [List.getElem?_append_right (by omega), show i + 1 - ms.length = 0 by omega] at hy
      rw [List.getElem?_append_left (by omega), show i = ms.length - 1 by omega, hl] at hx
      cases hx
      cases hy
      exact h1
  · rcases List.mem_append.mp hx with hx | hx
    · exact ok.inn x hx
    · rw [List.mem_singleton.mp hx]
      omega
def preDrawn : List RP → Int → (RP → Int → Prop) → Prop := fun ps b k => ∃ n, ps = [RL.I n] ∧ (1 ≤ n ∧ n ≤ 1000000000000) ∧ b ≤ 900000 ∧ ∀ qs b', DrawnOk n qs → b' ≤ b + 100 → k (lR (qs.map pr2)) b'
theorem c_law_drawn (T : Txt K mg ADay ACurve) : CalF P w K mg base 4 "_law_drawn" ["pen", "length"] (SpP preDrawn) := by
  have c_law_pick := c_law_pick (P := P) (w := w) (base := base) T
  have c_law_draw := c_law_draw (P := P) (w := w) (base := base) T
  have c_law_integer := c_law_integer (P := P) (w := w) (base := base) T
  refine T.d_law_drawn.okP sc_law_drawn (fun qs b kk h => by obtain ⟨n, rfl, _⟩ := h; rfl) (fun f cdv A outer s H E hr => ⟨_, (pss_cons (ps_set (i := 2) sc_law_drawn.nd rfl (Or.inl rfl) (pe_lst (pa_cons pe_int pa_nil)))
      (pss_cons (ps_for PassesOwn.never rfl (pi_range1 rfl T.b_range (pa_cons (pe_f c_law_draw hr (pa_cons (pv 0) (pa_cons pe_int pa_nil))) pa_nil)) (pg_name (i := 3) sc_law_drawn.nd rfl (Or.inl rfl)) (pss_cons (ps_set (i := 4) sc_law_drawn.nd rfl (Or.inl rfl) (pe_f c_law_pick hr (pa_cons (pv 0) (pa_cons (pe_lst (pa_cons (pe_f c_law_draw hr (pa_cons (pv 0) (pa_cons (pv 1) pa_nil))) (pa_cons (pe_op op_sub (pv 1) pe_int) (pa_cons (pe_op op_add (pe_ix ix_list (pv 2) (pe_un un_neg pe_int) (fun _ _ => rfl)) pe_int) pa_nil)))) pa_nil))))
      (pss_one (ps_if (pt_chain op_lt op_lt (pe_ix ix_list (pv 2) (pe_un un_neg pe_int) (fun _ _ => rfl)) (pv 4) (pv 1) ) (pss_one (ps_expr (pe_bm PySem.F.plainAttrs_list PySem.F.slot_list_append PySem.F.type_list_append mt_append (pv 2) (pa_cons (pv 4) pa_nil)))) pss_nil))))
      (pss_cons (ps_set (i := 5) sc_law_drawn.nd rfl (Or.inl rfl) (pe_lst pa_nil))
      (pss_cons (ps_for PassesOwn.never rfl (pi_list (pv 2)) (pg_name (i := 4) sc_law_drawn.nd rfl (Or.inl rfl)) (pss_cons (ps_set (i := 6) sc_law_drawn.nd rfl (Or.inl rfl) (pe_and (pe_cmpR (op_neD hr.units) (pv 5) (pe_lst pa_nil) (nomark _)) (pe_one (pe_cmpR op_eqi (pe_f c_law_draw hr (pa_cons (pv 0) (pa_cons pe_int pa_nil))) pe_int (nomark _)))))
      (pss_one (ps_expr (pe_bm PySem.F.plainAttrs_list PySem.F.slot_list_append PySem.F.type_list_append mt_append (pv 5) (pa_cons (pe_tup (pa_cons (pv 4) (pa_cons (pe_ifExp (pt_val (pv 6)) (pe_ix ix_tup (pe_ix ix_list (pv 5) (pe_un un_neg pe_int) (fun _ _ => rfl)) pe_int (fun _ _ => rfl)) (pe_f c_law_integer hr (pa_cons (pv 0) pa_nil))) pa_nil))) pa_nil))))))
      (pss_one (ps_ret (pv 5))))))), fun y qs b kk h => ?_⟩)
  obtain ⟨n, rfl, hn, hb, h⟩ := h
  refine s_seq ?_
  refine s_own (gn_lst ?_)
  walk_at "gs"
  refine s_forR1 (fun i ρ' b' => ∃ ms x y, ρ' = [.pen, .val (RL.I n), .own (ms.map RL.I), x, y, .no, .no] ∧ MarksOk n ms ∧ ms.length ≤ 1 + i ∧ b' ≤ b + 1 + 2 * i) ?_
  walk_at "gs"
  refine ⟨by omega, ⟨by decide, by decide⟩, fun m h0 h1 => ?_⟩
  walk_at "gs"
  refine ⟨by omega, ⟨[0], _, _, rfl, MarksOk.one hn.1, by simp, by omega⟩, ?_, ?_⟩
  · rintro i ρ' b' hi ⟨ms, x, y, rfl, ok, hl, hb'⟩
    refine a_name ?_
    walk_at "gs"
    refine ⟨by omega, ⟨by omega, by omega⟩, fun c1 h2 h3 => ?_⟩
    walk_at "gs"
    obtain ⟨l, hl1⟩ : ∃ l, ms[ms.length - 1]? = some l := ⟨_, List.getElem?_eq_getElem (by have := ok.ne; omega)⟩
    have hl2 : atI (ms.map RL.I) (-1) = some (RL.I l) := at_last (by rw [List.length_map, List.getElem?_map, hl1]; rfl)
    refine ⟨-1, _, rfl, hl2, ?_⟩
    walk_at "gs"
    refine ⟨by omega, ⟨by simp, by simp⟩, fun p hp => ?_⟩
    obtain ⟨c, rfl⟩ : ∃ c : Int, p = RL.I c := by
      simp only [List.mem_cons, List.not_mem_nil, or_false] at hp
      rcases hp with rfl | rfl | rfl <;> exact ⟨_, rfl⟩
    walk_at "gs"
    refine ⟨-1, _, rfl, hl2, ?_⟩
    walk_at "gs"
    have keep : ∃ ms' x y, [Slot.pen, .val (RL.I n), .own (ms.map RL.I), .val (RL.I (0 + (i : Int))), .val (RL.I c), .no, .no] = [.pen, .val (RL.I n), .own (ms'.map RL.I), x, y, .no, .no] ∧ MarksOk n ms' ∧ ms'.length ≤ 1 + (i + 1) ∧ b' + 1 + 1 ≤ b + 1 + 2 * ((i + 1 : Nat) : Int) := ⟨ms, _, _, rfl, ok, by omega, by omega⟩
    refine ⟨fun g1 => ?_, fun g1 => ?_⟩
    rotate_left
    · refine ⟨_, rfl, ?_⟩
      exact ⟨fun z => (by cases z), fun _ => s_next keep⟩
    walk_at "gs"
    refine ⟨fun g2 => ?_, fun g2 => s_next keep⟩
    simp only [decide_eq_true_eq] at g1 g2
    refine s_app rfl (by rw [List.length_map]; omega) ?_
    walk_at "gs"
    exact ⟨ms ++ [c], _, _, by rw [List.map_append]; rfl, ok.snoc hl1 g1 g2, by simp; omega, by omega⟩
  · rintro ρ' b' ⟨ms, x, y, rfl, ok, hl, hb'⟩
    walk_at "gs"
    refine s_own (gn_lst ?_)
    walk_at "gs"
    refine s_frz 2 rfl ?_
    refine s_forL (fun i ρ' b2 => ∃ (fs : List (Int × Int)) (u v : Slot), ρ' = [.pen, .val (RL.I n), .val (lR (ms.map RL.I)), x, u, .own (fs.map pr2), v] ∧ fs.map (·.1) = ms.take i ∧ (∀ x ∈ fs, -(10 ^ 60) < x.2 ∧ x.2 < 10 ^ 60) ∧ b2 ≤ b' + 3 * i) ?_
    walk_at "gs"
    refine ⟨⟨[], _, _, rfl, rfl, fun x hx => (by cases hx), by omega⟩, ?_, ?_⟩
    · rintro i d ρ' b2 hd ⟨fs, u, v, rfl, hf, hs, hb2⟩
      rw [List.getElem?_map] at hd
      obtain ⟨c, hc, rfl⟩ := Option.map_eq_some_iff.mp hd
      have hi : i < ms.length := (List.getElem?_eq_some_iff.mp hc).1
      have lf : fs.length = i := by
        have := congrArg List.length hf
        rw [List.length_map, List.length_take] at this
        omega
      refine a_name ?_
      refine s_seq ?_
      have step : ∀ (w : Int) (b4 : Int), (-(10 ^ 60) < w ∧ w < 10 ^ 60) → b4 ≤ b2 + 3 → ∀ g : Slot, ∃ (gs : List (Int × Int)) (u v : Slot), [Slot.pen, .val (RL.I n), .val (lR (ms.map RL.I)), x, .val (RL.I c), .own (fs.map pr2 ++ [tR [RL.I c, RL.I w]]), g] = [.pen, .val (RL.I n), .val (lR (ms.map RL.I)), x, u, .own (gs.map pr2), v] ∧
          gs.map (·.1) = ms.take (i + 1) ∧ (∀ x ∈ gs, -(10 ^ 60) < x.2 ∧ x.2 < 10 ^ 60) ∧ b4 ≤ b' + 3 * ((i + 1 : Nat) : Int) := fun w b4 hw hb4 g => by
        refine ⟨fs ++ [(c, w)], _, _, by rw [List.map_append]; rfl, ?_, fun x hx => ?_, by omega⟩
        · rw [List.map_append, hf, List.take_succ, hc]
          rfl
        · rcases List.mem_append.mp hx with hx | hx
          · exact hs x hx
          · rw [List.mem_singleton.mp hx]
            exact hw
      have hD : HasD K (lR (fs.map pr2)) (.list (fs.map prP)) := hd_l (hd_map (fun x : Int × Int => hd_t (.cons (hd_int x.1) (.cons (hd_int x.2) .nil))) fs)
      refine s_set (g_lend 5 rfl (G.mono (k := fun p b' => ∃ c, p = B c ∧ (c = true → fs ≠ []) ∧ b' ≤ b2 + 1) ?_ ?_))
      · walk_at "gs"
        refine o2_neD hD (hd_l .nil) (prP_shaped fs).1 (by decide) ?_
        walk_at "gs"
        refine ⟨fun g1 => ?_, fun g1 => ⟨false, rfl, fun z => (by cases z), by omega⟩⟩
        walk_at "gs"
        refine ⟨by omega, ⟨by decide, by decide⟩, fun m2 _ _ => ?_⟩
        walk_at "gs"
        refine ⟨fun _ z => ?_, by omega⟩
        subst z
        simp [PyData.eqv, PyData.eqvAll] at g1
      · rintro p b3 ⟨g, rfl, hg, hb3⟩
        refine ⟨pl_c, ?_⟩
        refine s_app rfl (by rw [List.length_map]; omega) ?_
        walk_at "gs"
        refine ⟨fun z => ?_, fun z => ?_⟩
        · have ne := hg z
          have l0 : 0 < fs.length := List.length_pos_iff.mpr ne
          obtain ⟨x, hx⟩ : ∃ x, fs[fs.length - 1]? = some x := ⟨_, List.getElem?_eq_getElem (by omega)⟩
          walk_at "gs"
          refine ⟨-1, pr2 x, rfl, at_last (by rw [List.length_map, List.getElem?_map, hx]; rfl), ?_⟩
          walk_at "gs"
          refine o2_ixT rfl ?_
          walk_at "gs"
          exact step x.2 b3 (hs x (List.mem_of_getElem? hx)) (by omega) _
        · walk_at "gs"
          refine g_p wk_integer rfl ?_
          walk_at "gs"
          refine ⟨rfl, by omega, fun z hz => ?_⟩
          walk_at "gs"
          exact step z _ hz (by omega) _
    · rintro ρ' b2 ⟨fs, u, v, rfl, hf, hs, hb2⟩
      refine s_frz 5 rfl ?_
      walk_at "gs"
      rw [List.length_map, List.take_length] at hf
      have lf : fs.length = ms.length := by rw [← hf, List.length_map]
      refine h fs b2 ⟨⟨?_, ?_, ?_, ?_⟩, ?_, hs⟩ ?_
      · have := ok.ne; omega
      · intro x hx
        have : (fs.map (·.1))[0]? = some x.1 := by rw [List.getElem?_map, hx]; rfl
        rw [hf, ok.z] at this
        exact (Option.some.inj this).symm
      · intro i x y hx hy
        exact ok.asc i x.1 y.1 (by rw [← hf, List.getElem?_map, hx]; rfl) (by rw [← hf, List.getElem?_map, hy]; rfl)
      · intro x hx
        exact ok.inn x.1 (by rw [← hf]; exact List.mem_map.mpr ⟨x, hx, rfl⟩)
      · rw [List.length_map] at *
        omega
      · rw [List.length_map] at *
        omega
end
section
variable {P : Program} {w : World} {K : PySem.W.Frag} {mg : Str → Option Value} {base : Heap} {ADay ACurve : Addr}
theorem fewestP_mem {ps : List (Int × Int)} (x : Int × Int) (h : x ∈ fewestP ps) : x ∈ ps := by
  have go : ∀ (ps acc : List (Int × Int)), x ∈ ps.foldl fwStep acc → x ∈ acc ∨ x ∈ ps := by
    intro ps
    induction ps with
    | nil => intro acc h; exact .inl h
    | cons y ps ih =>
      intro acc h
      rcases ih _ h with h | h
      · unfold fwStep at h
        split at h
        · exact .inl h
        · rcases List.mem_append.mp h with h | h
          · exact .inl h
          · rw [List.mem_singleton.mp h]; exact .inr List.mem_cons_self
      · exact .inr (List.mem_cons_of_mem _ h)
  rcases go ps [] h with h | h
  · cases h
  · exact h
theorem spansP_small {fs : List (Int × Int)} {n : Int} (fm : ∀ x ∈ fs, (0 ≤ x.1 ∧ x.1 < n) ∧ -(10 ^ 60) < x.2 ∧ x.2 < 10 ^ 60) (hn : n ≤ 1000000000000) (x : Int × Int × Int) (h : x ∈ spansP fs n) :
    (0 ≤ x.1 ∧ x.1 ≤ 1000000000000) ∧ (-1 ≤ x.2.1 ∧ x.2.1 ≤ 1000000000000) ∧ -(10 ^ 60) < x.2.2 ∧ x.2.2 < 10 ^ 60 := by
  unfold spansP at h
  rw [List.zipWith_eq_zipWith_take_min, ← List.map_uncurry_zip_eq_zipWith] at h
  obtain ⟨⟨y, e⟩, hy, rfl⟩ := List.mem_map.mp h
  have hm := List.of_mem_zip hy
  have h1 := List.mem_of_mem_take hm.1
  have h2 := List.mem_of_mem_take hm.2
  obtain ⟨a1, a2⟩ := fm y h1
  refine ⟨⟨a1.1, by show y.1 ≤ _; omega⟩, ?_, a2⟩
  show -1 ≤ e ∧ e ≤ 1000000000000
  unfold endsP at h2
  rcases List.mem_append.mp h2 with h2 | h2
  · obtain ⟨z, hz, rfl⟩ := List.mem_map.mp h2
    obtain ⟨b1, _⟩ := fm z (List.mem_of_mem_drop hz)
    omega
  · rw [List.mem_singleton.mp h2]
    have : 0 < n := by omega
    omega
theorem fw_sub (x : Int × Int) : ∀ (ps acc : List (Int × Int)), x ∈ acc → x ∈ ps.foldl fwStep acc
  | [], acc, h => h
  | y :: ps, acc, h => fw_sub x ps _ (by
    unfold fwStep
    split
    · exact h
    · exact List.mem_append_left _ h)
theorem fewest_vals (ps : List (Int × Int)) (v : Int) : v ∈ (fewestP ps).map (·.2) ↔ v ∈ ps.map (·.2) := by
  constructor
  · intro h
    obtain ⟨x, hx, rfl⟩ := List.mem_map.mp h
    exact List.mem_map.mpr ⟨x, fewestP_mem x hx, rfl⟩
  · intro h
    obtain ⟨x, hx, rfl⟩ := List.mem_map.mp h
    obtain ⟨i, hi, e⟩ := List.mem_iff_getElem.mp hx
    have la := fewest_last (ps := ps) (i := i) (x := x) (by rw [List.getElem?_eq_getElem hi, e])
    obtain ⟨y, hy, ey⟩ := Option.map_eq_some_iff.mp la
    have hm : y ∈ fewestP (ps.take (i + 1)) := List.mem_of_getLast? hy
    refine List.mem_map.mpr ⟨y, ?_, ey⟩
    have : fewestP ps = (ps.drop (i + 1)).foldl fwStep (fewestP (ps.take (i + 1))) := by
      unfold fewestP
      rw [← List.foldl_append, List.take_append_drop]
    rw [this]
    exact fw_sub y _ _ hm
/-- the last of all, where none is beyond c -/
theorem height_all (c : Int) : ∀ (ps : List (Int × Int)) (h : Int), (∀ x ∈ ps, x.1 ≤ c) → ps.foldl (fun h x => if x.1 ≤ c then x.2 else h) h = (ps.getLast?.map (·.2)).getD h
  | [], h, _ => rfl
  | x :: ps, h, hx => by
    show ps.foldl _ (if x.1 ≤ c then x.2 else h) = _
    rw [if_pos (hx x List.mem_cons_self), height_all c ps x.2 fun y hy => hx y (List.mem_cons_of_mem _ hy)]
    cases ps with
    | nil => rfl
    | cons y r => rw [List.getLast?_cons_cons]; cases g : (y :: r).getLast? with
      | none => simp at g
      | some z => rfl
theorem asc_lt {ps : List (Int × Int)} (asc : ∀ (i : Nat) x y, ps[i]? = some x → ps[i + 1]? = some y → x.1 < y.1) : ∀ (i j : Nat) x y, ps[i]? = some x → ps[j]? = some y → i < j → x.1 < y.1 := by
  intro i j
  induction j with
  | zero => intro x y _ _ h; omega
  | succ j ih =>
    intro x y hx hy h
    have hj : j < ps.length := by have := (List.getElem?_eq_some_iff.mp hy).1; omega
    have h1 := asc j _ y (List.getElem?_eq_getElem hj) hy
    by_cases e : i = j
    · subst e
      rw [List.getElem?_eq_getElem hj] at hx
      cases hx
      exact h1
    · have := ih x _ hx (List.getElem?_eq_getElem hj) (by omega)
      omega
theorem height_few {ps : List (Int × Int)} {c : Int} (asc : ∀ (i : Nat) x y, ps[i]? = some x → ps[i + 1]? = some y → x.1 < y.1) : heightP (fewestP ps) c = heightP ps c := by
  have go : ∀ i, i ≤ ps.length → heightP (fewestP (ps.take i)) c = heightP (ps.take i) c := by
    intro i
    induction i with
    | zero => intro _; rfl
    | succ i ih =>
      intro hi
      have hx := List.getElem?_eq_getElem (l := ps) (i := i) (by omega)
      rw [fewestP_take hx, heightP_take hx]
      unfold fwStep
      split
      · rename_i hl
        rw [ih (by omega)]
        split
        · rename_i hc
          cases i with
          | zero => simp [fewestP] at hl
          | succ j =>
            have hx' := List.getElem?_eq_getElem (l := ps) (i := j) (by omega)
            have la := fewest_last hx'
            rw [hl] at la
            have all : ∀ x ∈ ps.take (j + 1), x.1 ≤ c := fun x hxm => by
              obtain ⟨m, hm, em⟩ := List.mem_iff_getElem.mp hxm
              rw [List.length_take] at hm
              rw [List.getElem_take] at em
              have := asc_lt asc m (j + 1) x _ (by rw [List.getElem?_eq_getElem (by omega), em]) hx (by omega)
              omega
            unfold heightP
            rw [height_all c _ 0 all, List.take_succ, hx']
            show ((ps.take j ++ [ps[j]]).getLast?.map (·.2)).getD 0 = _
            rw [List.getLast?_concat]
            exact (Option.some.inj la).symm
        · rfl
      · unfold heightP
        rw [List.foldl_append]
        show (if ps[i].1 ≤ c then ps[i].2 else heightP (fewestP (ps.take i)) c) = _
        rw [ih (by omega)]
        rfl
  have := go ps.length (Nat.le_refl _)
  rwa [List.take_length] at this
theorem height_mem (c : Int) : ∀ (ps : List (Int × Int)) (h : Int), ps.foldl (fun h x => if x.1 ≤ c then x.2 else h) h = h ∨ ∃ x ∈ ps, ps.foldl (fun h x => if x.1 ≤ c then x.2 else h) h = x.2
  | [], h => .inl rfl
  | x :: ps, h => by
    show ps.foldl _ (if x.1 ≤ c then x.2 else h) = h ∨ ∃ y ∈ x :: ps, ps.foldl _ (if x.1 ≤ c then x.2 else h) = y.2
    rcases height_mem c ps (if x.1 ≤ c then x.2 else h) with e | ⟨y, hy, e⟩
    · rw [e]
      split
      · exact .inr ⟨x, List.mem_cons_self, rfl⟩
      · exact .inl rfl
    · exact .inr ⟨y, List.mem_cons_of_mem _ hy, e⟩
theorem KB_Curve : KwB "__init__" "Curve.__init__" s_Curve___init__ ["self", "day", "steps"] ["steps", "day"] 2 (fun ws => match ws with | [s, d] => [d, s] | l => l) :=
  ⟨fun _ _ _ _ _ _ u ws h => match ws, h with | [_, _], _ => rfl, fun {zs ws} r h => by
    match zs, ws, r, h with
    | [_, _], [_, _], .cons r1 (.cons r2 .nil), _ => exact .cons r2 (.cons r1 .nil)⟩
def preRight : List RP → Int → (RP → Int → Prop) → Prop := fun ps b k => ∃ qs n, ps = [lR (qs.map pr2), RL.I n] ∧ (1 ≤ n ∧ n ≤ 1000000000000) ∧ DrawnOk n qs ∧ b ≤ 900000 ∧ ∀ b', b' ≤ b + 100 → k (B true) b'
theorem c_law_curve_right (T : Txt K mg ADay ACurve) : CalF P w K mg base 7 "_law_curve_right" ["pen", "plain", "length"] (SpP preRight) := by
  have c_law_pick := c_law_pick (P := P) (w := w) (base := base) T
  have c_law_draw := c_law_draw (P := P) (w := w) (base := base) T
  have c_law_fewest := c_law_fewest (P := P) (w := w) (base := base) T
  have c_law_spans := c_law_spans (P := P) (w := w) (base := base) T
  have c_law_at := c_law_at (P := P) (w := w) (base := base) T
  have n_Curve := n_Curve (P := P) (w := w) (base := base) T
  have n_Day := n_Day (P := P) (w := w) (base := base) T
  have c_Curve___getitem__ := c_Curve___getitem__ (P := P) (w := w) (base := base) T
  have c_Curve___iter__ := c_Curve___iter__ (P := P) (w := w) (base := base) T
  have c_Curve_least := c_Curve_least (P := P) (w := w) (base := base) T
  have c_Curve_greatest := c_Curve_greatest (P := P) (w := w) (base := base) T
  have c_Day___eq__ := c_Day___eq__ (P := P) (w := w) (base := base) T
  refine T.d_law_curve_right.okP sc_law_curve_right (fun qs b kk h => by obtain ⟨qs, n, rfl, _⟩ := h; rfl) (fun f cdv A outer s H E hr => ⟨_, (pss_cons (ps_set (i := 3) sc_law_curve_right.nd rfl (Or.inl rfl) (pe_callTy call_list_of (by rfl) T.b_list (by decide +kernel) (pa_cons (pv 1) pa_nil)))
      (pss_cons (ps_set (i := 4) sc_law_curve_right.nd rfl (Or.inl rfl) (pe_ifExp (pt_cmpR op_eqi (pe_f c_law_draw hr (pa_cons (pv 0) (pa_cons pe_int pa_nil))) pe_int (nomark _)) (pe_w n_Curve hr (pa_cons (pe_w n_Day hr (pa_cons (pv 2) pa_nil)) (pa_cons (pv 3) pa_nil))) (pe_wk n_Curve T.m_Curve___init__ KB_Curve hr (pk_cons (pe_callTy call_tuple_of (by rfl) T.b_tuple (by decide +kernel) (pa_cons (pv 1) pa_nil)) (pk_cons (pe_w n_Day hr (pa_cons (pv 2) pa_nil)) pk_nil)))))
      (pss_cons (ps_expr (pe_bm PySem.F.plainAttrs_list PySem.F.slot_list_append PySem.F.type_list_append mt_append (pv 3) (pa_cons (pe_tup (pa_cons pe_int (pa_cons pe_int pa_nil))) pa_nil)))
      (pss_cons (ps_if (PW.pt (pw_or (pt_not (pt_val (pe_callB call_isi (by rfl) T.b_isinstance (by decide +kernel) (pa_cons (pe_fld (pv 4) rfl) (pa_cons (pe_bltn (v := .ty "tuple") rfl T.b_tuple (by decide +kernel) rfl) pa_nil))))) (pw_or1 (pt_cmpR op_ne (pe_callB (call_reprD hr) (by rfl) T.b_repr (by decide +kernel) (pa_cons (pe_callTy call_list_of (by rfl) T.b_list (by decide +kernel) (pa_cons (pe_fld (pv 4) rfl) pa_nil)) pa_nil)) (pe_callB (call_reprD hr) (by rfl) T.b_repr (by decide +kernel) (pa_cons (pe_f c_law_fewest hr (pa_cons (pv 1) pa_nil)) pa_nil)) (nomark _))))) (pss_one (ps_ret pe_bl)) pss_nil)
      (pss_cons (ps_if (PW.pt (pw_or (pt_cmpR op_ne (pe_callB (call_reprD hr) (by rfl) T.b_repr (by decide +kernel) (pa_cons (pe_lc (own := [("piece", 5)]) (tt := tYes) rfl sc_law_curve_right.nd (pi_own c_Curve___iter__ hr (pv 4)) (blkOk_by (N := ["pen", "plain", "length", "handed", "made", "piece", "walks", "clock", "low", "high", "turn", "far", "other", "value"]) (sc := defScope s_law_curve_right) (by decide +kernel)) (fun _ _ _ _ _ => (pg_name (i := 5) sc_law_curve_right.nd rfl (Or.inl rfl))) (fun _ _ _ _ _ => pts_nil) (fun _ _ _ _ _ => (pv 5))) pa_nil)) (pe_callB (call_reprD hr) (by rfl) T.b_repr (by decide +kernel) (pa_cons (pe_f c_law_spans hr (pa_cons (pv 1) (pa_cons (pv 2) pa_nil))) pa_nil)) (nomark _)) (pw_or1 (pt_cmpR (ow_ne c_Day___eq__ hr T.ne_Day T.ob_Day) (pe_fld (pv 4) rfl) (pe_w n_Day hr (pa_cons (pv 2) pa_nil)) (nomark _))))) (pss_one (ps_ret pe_bl)) pss_nil)
      (pss_cons (ps_set (i := 6) sc_law_curve_right.nd rfl (Or.inl rfl) (pe_lst pa_nil))
      (pss_cons (ps_for PassesOwn.never rfl (pi_own c_Curve___iter__ hr (pv 4)) (pg_name (i := 5) sc_law_curve_right.nd rfl (Or.inl rfl)) (pss_one (ps_expr (pe_bm PySem.F.plainAttrs_list PySem.F.slot_list_append PySem.F.type_list_append mt_append (pv 6) (pa_cons (pe_lc (own := [("other", 12)]) (tt := tYes) rfl sc_law_curve_right.nd (pi_own c_Curve___iter__ hr (pv 4)) (blkOk_by (N := ["pen", "plain", "length", "handed", "made", "piece", "walks", "clock", "low", "high", "turn", "far", "other", "value"]) (sc := defScope s_law_curve_right) (by decide +kernel)) (fun _ _ _ _ _ => (pg_name (i := 12) sc_law_curve_right.nd rfl (Or.inl rfl))) (fun _ _ _ _ _ => pts_nil) (fun _ _ _ _ _ => (pv 12))) pa_nil)))))
      (pss_cons (ps_if (PW.pt (pw_or (pt_cmpR op_ne (pe_callB (call_reprD hr) (by rfl) T.b_repr (by decide +kernel) (pa_cons (pv 6) pa_nil)) (pe_callB (call_reprD hr) (by rfl) T.b_repr (by decide +kernel) (pa_cons (pe_op op_rep (pe_lst (pa_cons (pe_f c_law_spans hr (pa_cons (pv 1) (pa_cons (pv 2) pa_nil))) pa_nil)) (pe_callB call_len_seq (by rfl) T.b_len (by decide +kernel) (pa_cons (pv 6) pa_nil))) pa_nil)) (nomark _)) (pw_or1 (pt_cmpR op_nei (pe_callB call_len_seq (by rfl) T.b_len (by decide +kernel) (pa_cons (pv 6) pa_nil)) (pe_callB call_len_seq (by rfl) T.b_len (by decide +kernel) (pa_cons (pe_f c_law_fewest hr (pa_cons (pv 1) pa_nil)) pa_nil)) (nomark _))))) (pss_one (ps_ret pe_bl)) pss_nil)
      (pss_cons (ps_par (i := 8) (j := 9) (by rfl) sc_law_curve_right.nd rfl rfl (by decide) rfl rfl (pa_cons (pe_callB (cr_min rfl) (by rfl) T.b_min (by decide +kernel) (pa_cons (pe_lc (own := [("clock", 7), ("value", 13)]) (tt := tYes) rfl sc_law_curve_right.nd (pi_list (pv 1)) (blkOk_by (N := ["pen", "plain", "length", "handed", "made", "piece", "walks", "clock", "low", "high", "turn", "far", "other", "value"]) (sc := defScope s_law_curve_right) (by decide +kernel)) (fun _ _ _ _ _ => (pg_tupK K (n := 2) rfl (pgs_cons (pg_name (i := 7) sc_law_curve_right.nd rfl (Or.inl rfl)) (pgs_cons (pg_name (i := 13) sc_law_curve_right.nd rfl (Or.inl rfl)) pgs_nil)))) (fun _ _ _ _ _ => pts_nil) (fun _ _ _ _ _ => (pe_callTy call_int1 (by rfl) T.b_int (by decide +kernel) (pa_cons (pv 13) pa_nil)))) pa_nil)) (pa_cons (pe_callB (cr_max rfl) (by rfl) T.b_max (by decide +kernel) (pa_cons (pe_lc (own := [("clock", 7), ("value", 13)]) (tt := tYes) rfl sc_law_curve_right.nd (pi_list (pv 1)) (blkOk_by (N := ["pen", "plain", "length", "handed", "made", "piece", "walks", "clock", "low", "high", "turn", "far", "other", "value"]) (sc := defScope s_law_curve_right) (by decide +kernel)) (fun _ _ _ _ _ => (pg_tupK K (n := 2) rfl (pgs_cons (pg_name (i := 7) sc_law_curve_right.nd rfl (Or.inl rfl)) (pgs_cons (pg_name (i := 13) sc_law_curve_right.nd rfl (Or.inl rfl)) pgs_nil)))) (fun _ _ _ _ _ => pts_nil) (fun _ _ _ _ _ => (pe_callTy call_int1 (by rfl) T.b_int (by decide +kernel) (pa_cons (pv 13) pa_nil)))) pa_nil)) pa_nil)) (by rfl))
      (pss_cons (ps_if (pt_cmpR op_ne (pe_callB (call_reprD hr) (by rfl) T.b_repr (by decide +kernel) (pa_cons (pe_lst (pa_cons (pe_pro c_Curve_least T.C_Curve.cl hr (pv 4)) (pa_cons (pe_pro c_Curve_greatest T.C_Curve.cl hr (pv 4)) pa_nil))) pa_nil)) (pe_callB (call_reprD hr) (by rfl) T.b_repr (by decide +kernel) (pa_cons (pe_lst (pa_cons (pv 8) (pa_cons (pv 9) pa_nil))) pa_nil)) (nomark _)) (pss_one (ps_ret pe_bl)) pss_nil)
      (pss_cons (ps_for PassesOwn.never rfl (pi_range1 rfl T.b_range (pa_cons pe_int pa_nil)) (pg_name (i := 10) sc_law_curve_right.nd rfl (Or.inl rfl)) (pss_cons (ps_set (i := 7) sc_law_curve_right.nd rfl (Or.inl rfl) (pe_f c_law_pick hr (pa_cons (pv 0) (pa_cons (pe_lst (pa_cons pe_int (pa_cons (pe_op op_sub (pv 2) pe_int) (pa_cons (pe_f c_law_draw hr (pa_cons (pv 0) (pa_cons (pv 2) pa_nil))) (pa_cons (pe_ix ix_tup (pe_f c_law_pick hr (pa_cons (pv 0) (pa_cons (pv 1) pa_nil))) pe_int (fun _ _ => rfl)) pa_nil))))) pa_nil))))
      (pss_cons (ps_set (i := 11) sc_law_curve_right.nd rfl (Or.inl rfl) (pe_f c_law_pick hr (pa_cons (pv 0) (pa_cons (pe_lst (pa_cons pe_int (pa_cons pe_int (pa_cons (pe_un un_neg pe_int) (pa_cons (pe_op op_fdivW (pe_op op_pow pe_int pe_int) (pv 2)) (pa_cons (pe_op op_sub pe_int (pe_op op_fdivW (pe_op op_pow pe_int pe_int) (pv 2))) (pa_cons pe_int pa_nil))))))) pa_nil))))
      (pss_one (ps_if (pt_cmpR op_ne (pe_callB SkE.call_repr_int (by rfl) T.b_repr (by decide +kernel) (pa_cons (pe_ixO c_Curve___getitem__ hr (pv 4) (pe_op op_add (pv 7) (pe_op op_mul (pv 11) (pv 2)))) pa_nil)) (pe_callB SkE.call_repr_int (by rfl) T.b_repr (by decide +kernel) (pa_cons (pe_f c_law_at hr (pa_cons (pv 1) (pa_cons (pv 7) pa_nil))) pa_nil)) (nomark _)) (pss_one (ps_ret pe_bl)) pss_nil)))))
      (pss_one (ps_ret pe_bl))))))))))))), fun y qs b kk h => ?_⟩)
  obtain ⟨ps, n, rfl, hn, ok, hb, h⟩ := h
  have hS : StepsOk n ps := ok.st
  have l8 := ok.len
  have lf := fewestP_len ps
  have lf0 := fewestP_pos hS.ne
  have hA : HasD K (lR ((fewestP ps).map pr2)) (.list ((fewestP ps).map prP)) := hd_l (hd_map (fun x : Int × Int => hd_t (.cons (hd_int x.1) (.cons (hd_int x.2) .nil))) _)
  have sm : ∀ z : Int, -(10 ^ 60) < z ∧ z < 10 ^ 60 → z.natAbs < 10 ^ 200 := fun z h => by
    have h1 : z.natAbs < 10 ^ 60 := by omega
    exact Nat.lt_trans h1 (by decide)
  have fm : ∀ x ∈ fewestP ps, (0 ≤ x.1 ∧ x.1 < n) ∧ -(10 ^ 60) < x.2 ∧ x.2 < 10 ^ 60 := fun x hx => ⟨hS.inn x (fewestP_mem x hx), ok.sm x (fewestP_mem x hx)⟩
  have sA : Shw (.list ((fewestP ps).map prP)) := (sw_list (n := 1) (m := 409) (L := 8) (fun d hd => by
    obtain ⟨x, hx, rfl⟩ := List.mem_map.mp hd
    obtain ⟨h1, h2⟩ := fm x hx
    refine sw_tup (n := 0) (m := 201) (L := 2) (fun d hd => ?_) (Nat.le_refl _)
    simp only [List.mem_cons, List.not_mem_nil, or_false] at hd
    rcases hd with rfl | rfl
    · exact sw_int (sm _ ⟨by omega, by omega⟩)
    · exact sw_int (sm _ h2)) (by rw [List.length_map]; omega)).shw (by decide) (by decide)
  have hS3 : HasD K (lR ((spansP (fewestP ps) n).map tr3)) (.list ((spansP (fewestP ps) n).map tr3P)) := hd_l (hd_map (fun x : Int × Int × Int => hd_t (.cons (hd_int x.1) (.cons (hd_int x.2.1) (.cons (hd_int x.2.2) .nil)))) _)
  have lsp : (spansP (fewestP ps) n).length = (fewestP ps).length := by
    unfold spansP
    rw [List.length_zipWith, endsP_len lf0]
    omega
  have wS3 : Sw 2 6000 (.list ((spansP (fewestP ps) n).map tr3P)) := (sw_list (n := 1) (m := 612) (L := 8) (fun d hd => by
    obtain ⟨x, hx, rfl⟩ := List.mem_map.mp hd
    obtain ⟨h1, h2, h3⟩ := spansP_small fm hn.2 x hx
    refine sw_tup (n := 0) (m := 201) (L := 3) (fun d hd => ?_) (Nat.le_refl _)
    simp only [List.mem_cons, List.not_mem_nil, or_false] at hd
    rcases hd with rfl | rfl | rfl
    · exact sw_int (sm _ ⟨by omega, by omega⟩)
    · exact sw_int (sm _ ⟨by omega, by omega⟩)
    · exact sw_int (sm _ h3)) (by rw [List.length_map]; omega)).mono (by decide) (by decide)
  have sS3 := wS3.shw (by decide) (by decide)
  have fS : Fld K (cvR ACurve ADay n (fewestP ps)) "steps" (tR ((fewestP ps).map pr2)) := fld_steps T.C_Curve.cl T.na_Curve_steps
  have fD : Fld K (cvR ACurve ADay n (fewestP ps)) "day" (dayR ADay n) := fld_day T.C_Curve.cl T.na_Curve_day
  refine s_seq ?_
  refine s_own (gn_list ?_)
  walk_at "gs"
  refine ⟨ps.map pr2, .inl rfl, ?_⟩
  refine s_seq ?_
  refine s_set (g_lend 3 rfl (G.mono (k := fun p b' => p = cvR ACurve ADay n (fewestP ps) ∧ b' = b + 1) ?_ ?_))
  · walk_at "gs"
    refine ⟨by omega, ⟨by decide, by decide⟩, fun m _ _ => ?_⟩
    walk_at "gs"
    refine ⟨fun _ => ?_, fun _ => ?_⟩
    · refine g_new wk_curve ?_
      walk_at "gs"
      refine g_new wk_day ?_
      walk_at "gs"
      refine ⟨by omega, ?_⟩
      walk_at "gs"
      exact ⟨n, ps, .inl rfl, hS, by omega, rfl, rfl⟩
    · refine g_newK wk_curve (fun H xs vs hl r => ?_) ?_
      · match xs, vs, hl, r with
        | [_, _], [_, _], _, .cons r1 (.cons r2 .nil) => exact .cons r2 (.cons r1 .nil)
      walk_at "gs"
      refine oc_tuple ?_
      walk_at "gs"
      refine g_new wk_day ?_
      walk_at "gs"
      refine ⟨by omega, ?_⟩
      walk_at "gs"
      exact ⟨rfl, n, ps, .inr rfl, hS, by omega, rfl, rfl⟩
  rintro _ _ ⟨rfl, rfl⟩
  refine ⟨pl_cv, ?_⟩
  refine s_seq ?_
  refine s_app rfl (by rw [List.length_map]; omega) ?_
  walk_at "ge"
  refine s_seq (s_ifF (t_orF (t_not ?_)))
  walk_at "ge"
  refine oc_isi ht_t (.ty _) (kit_self _) ?_
  refine ⟨_, rfl, rfl, ?_⟩
  walk_at "ge"
  refine oc_listT ?_
  walk_at "ge"
  refine oc_repr hA sA ref_l ?_
  walk_at "ge"
  refine g_f wk_lawFew ?_
  walk_at "ge"
  refine ⟨by omega, ?_⟩
  walk_at "ge"
  refine oc_repr hA sA ref_l ?_
  refine o2_neS ?_
  refine ⟨_, rfl, rfl, s_next ?_⟩
  -- the pieces, the day
  refine s_seq (s_ifF (t_orF ?_))
  walk_at "ge"
  refine g_n (gn_lcO (fun i acc b' => acc = ((spansP (fewestP ps) n).map tr3).take i ∧ b' = b + 1) ?_)
  walk_at "ge"
  refine ⟨_, its_cv, ⟨rfl, rfl⟩, fun i d acc b' hd => ?_, fun acc b' => ?_⟩
  · rintro ⟨rfl, rfl⟩
    refine lc_copyT (by decide) ?_ rfl ⟨?_, rfl⟩
    · rw [List.length_take, List.length_map]; omega
    · rw [List.take_succ, hd]; rfl
  rintro ⟨rfl, rfl⟩
  rw [List.take_length]
  walk_at "ge"
  refine oc_repr hS3 sS3 ref_l ?_
  walk_at "ge"
  refine g_f wk_lawSpans ?_
  walk_at "ge"
  refine ⟨ps, n, rfl, ⟨hS.ne, by omega⟩, ?_⟩
  walk_at "ge"
  refine oc_repr hS3 sS3 ref_l ?_
  refine o2_neS ?_
  refine ⟨_, rfl, rfl, ?_⟩
  walk_at "ge"
  refine g_new wk_day ?_
  walk_at "ge"
  refine ⟨hn, ?_⟩
  refine o2_neO wk_dayEq isC_day isC_day ?_
  refine ⟨n, _, rfl, .inl ⟨n, rfl, ?_⟩⟩
  refine ⟨_, rfl, ?_⟩
  refine ⟨_, rfl, by simp, s_next ?_⟩
  -- walks
  refine s_seq (s_own (gn_lst ?_))
  walk_at "ge"
  refine s_seq (s_forO (fun i ρ' b' => ∃ x, ρ' = [.pen, .val (lR (ps.map pr2)), .val (RL.I n), .own (ps.map pr2 ++ [tR [RL.I 0, RL.I 5]]), .val (cvR ACurve ADay n (fewestP ps)), x, .own (List.replicate i (lR ((spansP (fewestP ps) n).map tr3))), .no, .no, .no, .no, .no, .no, .no] ∧ b' = b + 1) ?_)
  walk_at "ge"
  refine ⟨_, its_cv, ⟨_, rfl, rfl⟩, ?_, ?_⟩
  · rintro i d _ _ hd ⟨x, rfl, rfl⟩
    have hi := (List.getElem?_eq_some_iff.mp hd).1
    rw [List.length_map] at hi
    refine a_name ?_
    refine s_app rfl (by rw [List.length_replicate]; omega) ?_
    refine g_n (gn_lcO (fun i acc b' => acc = ((spansP (fewestP ps) n).map tr3).take i ∧ b' = b + 1) ?_)
    walk_at "ge"
    refine ⟨_, its_cv, ⟨rfl, rfl⟩, fun i d acc b' hd => ?_, fun acc b' => ?_⟩
    · rintro ⟨rfl, rfl⟩
      refine lc_copyT (by decide) ?_ rfl ⟨?_, rfl⟩
      · rw [List.length_take, List.length_map]; omega
      · rw [List.take_succ, hd]; rfl
    rintro ⟨rfl, rfl⟩
    rw [List.take_length]
    exact ⟨_, by rw [List.replicate_succ'] <;> rfl, rfl⟩
  rintro _ _ ⟨x, rfl, rfl⟩
  rw [List.length_map]
  refine s_frz 6 rfl ?_
  refine s_seq (s_ifF (t_orF ?_))
  have hW : ∀ m : Nat, HasD K (lR (List.replicate m (lR ((spansP (fewestP ps) n).map tr3)))) (.list (List.replicate m (.list ((spansP (fewestP ps) n).map tr3P)))) := fun m => hd_l (by
    induction m with
    | zero => exact .nil
    | succ m ih => exact .cons hS3 ih)
  have sW : Shw (.list (List.replicate (spansP (fewestP ps) n).length (PyData.list ((spansP (fewestP ps) n).map tr3P)))) := (sw_list (L := 8) (fun d hd => by rw [(List.mem_replicate.mp hd).2]; exact wS3) (by rw [List.length_replicate]; omega)).shw (by decide) (by decide)
  walk_at "ge"
  refine oc_repr (hW _) sW ref_l ?_
  walk_at "ge"
  refine g_f wk_lawSpans ?_
  walk_at "ge"
  refine ⟨ps, n, rfl, ⟨hS.ne, by omega⟩, ?_⟩
  walk_at "ge"
  refine oc_len ?_
  rw [List.length_replicate]
  refine o2_rep ⟨by omega, by omega⟩ (by show 1 ≤ 1000; decide) ?_
  rw [Int.toNat_natCast, List.flatten_replicate_singleton]
  walk_at "ge"
  refine oc_repr (hW _) sW ref_l ?_
  refine o2_neS ?_
  refine ⟨_, rfl, rfl, ?_⟩
  walk_at "ge"
  refine oc_len ?_
  walk_at "ge"
  refine g_f wk_lawFew ?_
  walk_at "ge"
  refine ⟨by omega, ?_⟩
  walk_at "ge"
  refine oc_len ?_
  walk_at "ge"
  refine ⟨by simp [lsp], s_next ?_⟩
  -- the least and the greatest
  refine s_seq (s_par ?_)
  walk_at "ge"
  refine g_n (gn_lcL (fun i acc b' => acc = ((ps.map (·.2)).map RL.I).take i ∧ b' = b + 1) ?_)
  walk_at "ge"
  refine ⟨⟨rfl, rfl⟩, fun i d acc b' hd => ?_, fun acc b' => ?_⟩
  · rintro ⟨rfl, rfl⟩
    rw [List.getElem?_map] at hd
    obtain ⟨z, hz, rfl⟩ := Option.map_eq_some_iff.mp hd
    refine w_tup rfl (w_cons (w_name (by decide) (w_cons (w_name (by decide) (w_nil (t_yes ⟨fun _ => ?_, fun z => (by cases z)⟩))))))
    walk_at "ge"
    refine oc_int1 ⟨by rw [List.length_take, List.length_map, List.length_map]; omega, ?_, rfl⟩
    rw [List.take_succ, List.getElem?_map, List.getElem?_map, hz]
    rfl
  rintro ⟨rfl, rfl⟩
  rw [show (ps.map pr2).length = ((ps.map (·.2)).map RL.I).length by rw [List.length_map, List.length_map, List.length_map], List.take_length]
  walk_at "ge"
  refine oc_min (by rw [List.length_map]; exact hS.ne) fun lo lo1 lo2 => ?_
  walk_at "ge"
  refine g_n (gn_lcL (fun i acc b' => acc = ((ps.map (·.2)).map RL.I).take i ∧ b' = b + 1) ?_)
  walk_at "ge"
  refine ⟨⟨rfl, rfl⟩, fun i d acc b' hd => ?_, fun acc b' => ?_⟩
  · rintro ⟨rfl, rfl⟩
    rw [List.getElem?_map] at hd
    obtain ⟨z, hz, rfl⟩ := Option.map_eq_some_iff.mp hd
    refine w_tup rfl (w_cons (w_name (by decide) (w_cons (w_name (by decide) (w_nil (t_yes ⟨fun _ => ?_, fun z => (by cases z)⟩))))))
    walk_at "ge"
    refine oc_int1 ⟨by rw [List.length_take, List.length_map, List.length_map]; omega, ?_, rfl⟩
    rw [List.take_succ, List.getElem?_map, List.getElem?_map, hz]
    rfl
  rintro ⟨rfl, rfl⟩
  rw [show (ps.map pr2).length = ((ps.map (·.2)).map RL.I).length by rw [List.length_map, List.length_map, List.length_map], List.take_length]
  walk_at "ge"
  refine oc_max (by rw [List.length_map]; exact hS.ne) fun hi hi1 hi2 => ?_
  walk_at "ge"
  refine ⟨_, _, rfl, ?_⟩
  refine s_seq (s_ifF ?_)
  walk_at "ge"
  refine g_pro wk_low ?_
  walk_at "ge"
  refine ⟨isC_cv, n, _, rfl, ⟨lf0, by omega⟩, fun m m1 m2 => ?_⟩
  walk_at "ge"
  refine g_pro wk_high ?_
  walk_at "ge"
  refine ⟨isC_cv, n, _, rfl, ⟨lf0, by omega⟩, fun m' m3 m4 => ?_⟩
  walk_at "ge"
  have e1 : m = lo := Int.le_antisymm (m2 _ ((fewest_vals ps _).mpr lo1)) (lo2 _ ((fewest_vals ps _).mp m1))
  have e2 : m' = hi := Int.le_antisymm (hi2 _ ((fewest_vals ps _).mp m3)) (m4 _ ((fewest_vals ps _).mpr hi1))
  subst e1 e2
  have bnd : ∀ z, z ∈ ps.map (·.2) → z.natAbs < 10 ^ 200 := fun z hz => by
    obtain ⟨x, hx, rfl⟩ := List.mem_map.mp hz
    exact sm _ (ok.sm x hx)
  have s2 : Shw (.list [.int m, .int m']) := Shw.two (bnd _ lo1) (bnd _ hi1)
  refine oc_repr (hd_l (.cons (hd_int _) (.cons (hd_int _) .nil))) s2 ref_l ?_
  walk_at "ge"
  refine oc_repr (hd_l (.cons (hd_int _) (.cons (hd_int _) .nil))) s2 ref_l ?_
  refine o2_neS ?_
  refine ⟨_, rfl, rfl, s_next ?_⟩
  -- moments
  refine s_seq (s_forR1 (fun i ρ' b' => ∃ x5 x6 c x8 x9 t f, ρ' = [.pen, .val (lR (ps.map pr2)), .val (RL.I n), .own (ps.map pr2 ++ [tR [RL.I 0, RL.I 5]]), .val (cvR ACurve ADay n (fewestP ps)), x5, x6, c, x8, x9, t, f, .no, .no] ∧ b' = b + 1 + 4 * i) ?_)
  walk_at "ge"
  refine ⟨⟨by decide, by decide⟩, ⟨_, _, _, _, _, _, _, rfl, by omega⟩, ?_, ?_⟩
  · rintro i _ _ hi6 ⟨x5, x6, c0, x8, x9, t0, f0, rfl, rfl⟩
    have hi6 : i < 6 := hi6
    refine a_name ?_
    refine s_seq (s_set (G.mono (k := fun p b' => ∃ c, p = RL.I c ∧ (0 ≤ c ∧ c < n) ∧ b' = b + 1 + 4 * i + 3) ?_ ?_))
    · walk_at "ge"
      refine ⟨by omega, ⟨by omega, by omega⟩, fun c1 _ _ => ?_⟩
      walk_at "ge"
      refine ⟨by omega, ⟨by rw [List.length_map]; exact hS.ne, by rw [List.length_map]; omega⟩, fun p hp => ?_⟩
      obtain ⟨z, hz, rfl⟩ := List.mem_map.mp hp
      walk_at "ge"
      refine o2_ixT rfl ?_
      walk_at "ge"
      refine ⟨by omega, ⟨by simp, by simp⟩, fun p hp => ?_⟩
      have z1 := hS.inn z hz
      simp only [List.mem_cons, List.not_mem_nil, or_false] at hp
      rcases hp with rfl | rfl | rfl | rfl
      · exact ⟨0, rfl, ⟨by omega, by omega⟩, by omega⟩
      · exact ⟨n - 1, rfl, ⟨by omega, by omega⟩, by omega⟩
      · exact ⟨c1, rfl, ⟨by assumption, by assumption⟩, by omega⟩
      · exact ⟨z.1, rfl, z1, by omega⟩
    rintro _ _ ⟨c, rfl, hc, rfl⟩
    refine s_seq (s_set (G.mono (k := fun p b' => ∃ g, p = RL.I g ∧ (-(10 ^ 59) ≤ g * n ∧ g * n ≤ 10 ^ 59) ∧ b' = b + 1 + 4 * i + 4) ?_ ?_))
    · walk_at "ge"
      have dv : ∀ x : Int, CDivW x n := fun x => wide_div (b := 200) (by omega) (by omega) (by decide) (by decide)
      refine o2_i (dv _) ?_
      walk_at "ge"
      refine o2_i (dv _) ?_
      walk_at "ge"
      refine ⟨by omega, ⟨by simp, by simp⟩, fun p hp => ?_⟩
      have d1 : 0 ≤ (10 ^ 59 : Int) / n := Int.ediv_nonneg (by decide) (by omega)
      have d2 : (10 ^ 59 : Int) / n * n ≤ 10 ^ 59 := Int.ediv_mul_le _ (by omega)
      have d3 : 0 ≤ (10 ^ 59 : Int) / n * n := Int.mul_nonneg d1 (by omega)
      have e59 : (10 : Int) ^ Int.toNat 59 = 10 ^ 59 := by decide
      simp only [List.mem_cons, List.not_mem_nil, or_false, e59] at hp
      rcases hp with rfl | rfl | rfl | rfl | rfl | rfl
      · exact ⟨0, rfl, ⟨by omega, by omega⟩, by omega⟩
      · exact ⟨1, rfl, ⟨by omega, by omega⟩, by omega⟩
      · exact ⟨-1, rfl, ⟨by omega, by omega⟩, by omega⟩
      · exact ⟨_, rfl, ⟨by omega, d2⟩, by omega⟩
      · refine ⟨_, rfl, ?_, by omega⟩
        rw [Int.sub_mul, Int.zero_mul]
        exact ⟨by omega, by omega⟩
      · exact ⟨7, rfl, ⟨by omega, by omega⟩, by omega⟩
    rintro _ _ ⟨g, rfl, hg, rfl⟩
    refine s_ifF ?_
    walk_at "ge"
    refine o2_i (.inr ⟨by omega, by omega⟩) ?_
    walk_at "ge"
    refine o2_item wk_item isC_cv ?_
    refine ⟨n, _, _, rfl, by omega, ⟨by omega, by omega⟩, ?_⟩
    rw [Int.add_mul_emod_self_right, Int.emod_eq_of_lt hc.1 hc.2, height_few hS.asc]
    have hb2 : (heightP ps c).natAbs < 10 ^ 200 := by
      rcases height_mem c ps 0 with e | ⟨x, hx, e⟩
      · unfold heightP
        rw [e]
        decide
      · unfold heightP
        rw [e]
        exact sm _ (ok.sm x hx)
    walk_at "ge"
    refine oc_reprI (int_log2 hb2) ?_
    walk_at "ge"
    refine g_f wk_lawAt ?_
    walk_at "ge"
    refine ⟨n, ps, c, rfl, hS, by omega, hc.1, ?_⟩
    walk_at "ge"
    refine oc_reprI (int_log2 hb2) ?_
    refine o2_neS ?_
    refine ⟨_, rfl, rfl, s_next ?_⟩
    exact ⟨_, _, _, _, _, _, _, rfl, by omega⟩
  · rintro _ _ ⟨x5, x6, c0, x8, x9, t0, f0, rfl, rfl⟩
    refine s_ret (g_c ?_)
    exact h _ (by show b + 1 + 4 * ((6 : Nat) : Int) ≤ _; omega)
end
theorem fw_app : ∀ (ps acc : List (Int × Int)), ∃ l, l.Sublist ps ∧ ps.foldl fwStep acc = acc ++ l
  | [], acc => ⟨[], .slnil, by simp⟩
  | x :: ps, acc => by
    obtain ⟨l, h1, h2⟩ := fw_app ps (fwStep acc x)
    show ∃ l, l.Sublist (x :: ps) ∧ ps.foldl fwStep (fwStep acc x) = acc ++ l
    rw [h2]
    unfold fwStep
    split
    · exact ⟨l, h1.cons _, rfl⟩
    · exact ⟨x :: l, h1.cons₂ _, by simp⟩
theorem few_sub (ps : List (Int × Int)) : (fewestP ps).Sublist ps := by
  obtain ⟨l, h1, h2⟩ := fw_app ps []
  have : fewestP ps = l := by
    unfold fewestP
    rw [h2]
    rfl
  rw [this]
  exact h1
theorem few_head {ps : List (Int × Int)} : (fewestP ps)[0]? = ps[0]? := by
  cases ps with
  | nil => rfl
  | cons x ps =>
    obtain ⟨l, h1, h2⟩ := fw_app ps [x]
    have : fewestP (x :: ps) = [x] ++ l := by
      unfold fewestP
      show ps.foldl fwStep (fwStep [] x) = _
      rw [show fwStep [] x = [x] by simp [fwStep]]
      exact h2
    rw [this]
    rfl
theorem StepsOk.few {n : Int} {ps : List (Int × Int)} (ok : StepsOk n ps) : StepsOk n (fewestP ps) := by
  have pw : ps.Pairwise fun x y => x.1 < y.1 := by
    rw [List.pairwise_iff_getElem]
    intro i j hi hj h
    exact asc_lt ok.asc i j _ _ (List.getElem?_eq_getElem hi) (List.getElem?_eq_getElem hj) h
  have pf := pw.sublist (few_sub ps)
  refine ⟨fewestP_pos ok.ne, fun x hx => ok.z x (by rw [← few_head]; exact hx), fun i x y hx hy => ?_, fun x hx => ok.inn x (fewestP_mem x hx)⟩
  rw [List.pairwise_iff_getElem] at pf
  obtain ⟨h1, e1⟩ := List.getElem?_eq_some_iff.mp hx
  obtain ⟨h2, e2⟩ := List.getElem?_eq_some_iff.mp hy
  rw [← e1, ← e2]
  exact pf i (i + 1) h1 h2 (by omega)
def Apart (l : List (Int × Int)) : Prop := ∀ (i : Nat) x y, l[i]? = some x → l[i + 1]? = some y → x.2 ≠ y.2
theorem apart_few (ps : List (Int × Int)) : Apart (fewestP ps) := by
  have go : ∀ (ps acc : List (Int × Int)), Apart acc → Apart (ps.foldl fwStep acc) := by
    intro ps
    induction ps with
    | nil => intro acc h; exact h
    | cons z ps ih =>
      intro acc h
      refine ih _ ?_
      unfold fwStep
      split
      · exact h
      · rename_i hne
        intro i x y hx hy
        by_cases c1 : i + 1 < acc.length
        · rw [List.getElem?_append_left (by omega)] at hx
          rw [List.getElem?_append_left c1] at hy
          exact h i x y hx hy
        · have hi := (List.getElem?_eq_some_iff.mp hy).1
          rw [List.length_append, List.length_singleton] at hi
          rw [List.getElem?_append_right (by omega), show i + 1 - acc.length = 0 by omega] at hy
          rw [List.getElem?_append_left (by omega)] at hx
          cases hy
          intro e
          refine hne ?_
          rw [List.getLast?_eq_getElem?, show acc.length - 1 = i by omega, hx]
          show some x.2 = _
          rw [e]
  exact go ps [] fun i x y h => by simp at h
theorem few_id {l : List (Int × Int)} (h : Apart l) : fewestP l = l := by
  have go : ∀ i, i ≤ l.length → fewestP (l.take i) = l.take i := by
    intro i
    induction i with
    | zero => intro _; rfl
    | succ i ih =>
      intro hi
      have hx := List.getElem?_eq_getElem (l := l) (i := i) (by omega)
      rw [fewestP_take hx, ih (by omega)]
      unfold fwStep
      rw [if_neg, List.take_succ, hx]
      · rfl
      · intro e
        cases i with
        | zero => simp at e
        | succ j =>
          have hx' := List.getElem?_eq_getElem (l := l) (i := j) (by omega)
          rw [List.take_succ, hx'] at e
          have e : ((l.take j ++ [l[j]]).getLast?.map (·.2)) = some l[j + 1].2 := e
          rw [List.getLast?_concat] at e
          exact h j _ _ hx' hx (Option.some.inj e)
  have := go l.length (Nat.le_refl _)
  rwa [List.take_length] at this
theorem few_few (ps : List (Int × Int)) : fewestP (fewestP ps) = fewestP ps := few_id (apart_few ps)
theorem kt_of {K : PySem.W.Frag} {C : Addr} {q : RP} {t : Value} (h : HasT K q t) (n : PySem.W.notFirst K C t = true) : KT K C q := fun H v r => ⟨t, h H v r, n⟩
/-- one number more makes another curve -/
theorem bent_ne {ps : List (Int × Int)} {n : Int} {i : Nat} {x : Int × Int} (ok : StepsOk n ps) (hx : ps[i]? = some x) : fewestP (ps.set i (x.1, x.2 + 1)) ≠ fewestP ps := by
  intro e
  have asc := ok.asc
  have asc2 : ∀ (j : Nat) y z, (ps.set i (x.1, x.2 + 1))[j]? = some y → (ps.set i (x.1, x.2 + 1))[j + 1]? = some z → y.1 < z.1 := by
    have same : ∀ (j : Nat) y, (ps.set i (x.1, x.2 + 1))[j]? = some y → ∃ y', ps[j]? = some y' ∧ y'.1 = y.1 := by
      intro j y h
      rcases RL.set_get h with ⟨rfl, rfl⟩ | ⟨_, h⟩
      · exact ⟨x, hx, rfl⟩
      · exact ⟨y, h, rfl⟩
    intro j y z hy hz
    obtain ⟨y', h1, e1⟩ := same j y hy
    obtain ⟨z', h2, e2⟩ := same (j + 1) z hz
    rw [← e1, ← e2]
    exact asc j y' z' h1 h2
  have at_ : ∀ {qs : List (Int × Int)}, (∀ (j : Nat) y z, qs[j]? = some y → qs[j + 1]? = some z → y.1 < z.1) → ∀ z, qs[i]? = some z → z.1 = x.1 → heightP qs x.1 = z.2 := by
    intro qs asc z hz ez
    have hi := (List.getElem?_eq_some_iff.mp hz).1
    have e1 : heightP (qs.take (i + 1)) x.1 = z.2 := by
      rw [heightP_take hz, if_pos (by omega)]
    have rest : ∀ (l : List (Int × Int)) (h : Int), (∀ y ∈ l, ¬ y.1 ≤ x.1) → l.foldl (fun h y => if y.1 ≤ x.1 then y.2 else h) h = h := by
      intro l
      induction l with
      | nil => intro h _; rfl
      | cons y l ih =>
        intro h hy
        show l.foldl _ (if y.1 ≤ x.1 then y.2 else h) = h
        rw [if_neg (hy y List.mem_cons_self)]
        exact ih h fun w hw => hy w (List.mem_cons_of_mem _ hw)
    have e2 : heightP qs x.1 = (qs.drop (i + 1)).foldl (fun h y => if y.1 ≤ x.1 then y.2 else h) (heightP (qs.take (i + 1)) x.1) := by
      unfold heightP
      rw [← List.foldl_append, List.take_append_drop]
    rw [e2, rest _ _ fun y hy => ?_, e1]
    obtain ⟨m, hm, em⟩ := List.mem_iff_getElem.mp hy
    rw [List.length_drop] at hm
    rw [List.getElem_drop] at em
    have := asc_lt asc i (i + 1 + m) z y hz (by rw [List.getElem?_eq_getElem (by omega), em]) (by omega)
    omega
  have h1 := at_ asc x hx rfl
  have h2 := at_ asc2 (x.1, x.2 + 1) (by rw [List.getElem?_set_self (List.getElem?_eq_some_iff.mp hx).1]) rfl
  rw [← height_few asc2, e, height_few asc, h1] at h2
  omega
theorem bent_ok {ps : List (Int × Int)} {n : Int} {i : Nat} {x : Int × Int} (ok : StepsOk n ps) (hx : ps[i]? = some x) : StepsOk n (ps.set i (x.1, x.2 + 1)) := by
  have same : ∀ (j : Nat) y, (ps.set i (x.1, x.2 + 1))[j]? = some y → ∃ y', ps[j]? = some y' ∧ y'.1 = y.1 := by
    intro j y h
    rcases RL.set_get h with ⟨rfl, rfl⟩ | ⟨_, h⟩
    · exact ⟨x, hx, rfl⟩
    · exact ⟨y, h, rfl⟩
  refine ⟨by rw [List.length_set]; exact ok.ne, fun y hy => ?_, fun j y z hy hz => ?_, fun y hy => ?_⟩
  · obtain ⟨y', h1, e1⟩ := same 0 y hy
    rw [← e1]
    exact ok.z y' h1
  · obtain ⟨y', h1, e1⟩ := same j y hy
    obtain ⟨z', h2, e2⟩ := same (j + 1) z hz
    rw [← e1, ← e2]
    exact ok.asc j y' z' h1 h2
  · obtain ⟨j, hj, e⟩ := List.mem_iff_getElem.mp hy
    obtain ⟨y', h1, e1⟩ := same j y (by rw [List.getElem?_eq_getElem hj, e])
    rw [← e1]
    exact ok.inn y' (List.mem_of_getElem? h1)
section
variable {P : Program} {w : World} {K : PySem.W.Frag} {mg : Str → Option Value} {base : Heap} {ADay ACurve : Addr}
theorem c_law_equal_right (T : Txt K mg ADay ACurve) : CalF P w K mg base 7 "_law_equal_right" ["pen", "plain", "length"] (SpP preRight) := by
  have c_law_draw := c_law_draw (P := P) (w := w) (base := base) T
  have c_law_fewest := c_law_fewest (P := P) (w := w) (base := base) T
  have n_Curve := n_Curve (P := P) (w := w) (base := base) T
  have n_Day := n_Day (P := P) (w := w) (base := base) T
  have c_Curve___eq__ := c_Curve___eq__ (P := P) (w := w) (base := base) T
  refine T.d_law_equal_right.okP sc_law_equal_right (fun qs b kk h => by obtain ⟨qs, n, rfl, _⟩ := h; rfl) (fun f cdv A outer s H E hr => ⟨_, (pss_cons (ps_par (i := 3) (j := 4) (by rfl) sc_law_equal_right.nd rfl rfl (by decide) rfl rfl (pa_cons (pe_w n_Curve hr (pa_cons (pe_w n_Day hr (pa_cons (pv 2) pa_nil)) (pa_cons (pv 1) pa_nil))) (pa_cons (pe_w n_Curve hr (pa_cons (pe_w n_Day hr (pa_cons (pv 2) pa_nil)) (pa_cons (pe_f c_law_fewest hr (pa_cons (pv 1) pa_nil)) pa_nil))) pa_nil)) (by rfl))
      (pss_cons (ps_if (PW.pt (pw_or (pt_not (pt_cmpR (ow_eqW c_Curve___eq__ hr) (pv 3) (pv 4) (nomark _))) (pw_or (pt_cmpR (ow_neW c_Curve___eq__ hr T.ne_Curve T.ob_Curve) (pv 3) (pv 4) (nomark _)) (pw_or (pt_cmpR (ow_eqW c_Curve___eq__ hr) (pv 3) (pe_callTy call_tuple_of (by rfl) T.b_tuple (by decide +kernel) (pa_cons (pv 1) pa_nil)) (nomark _)) (pw_or1 (pt_not (pt_cmpR (ow_neW c_Curve___eq__ hr T.ne_Curve T.ob_Curve) (pv 3) pe_non (nomark _)))))))) (pss_one (ps_ret pe_bl)) pss_nil)
      (pss_cons (ps_set (i := 5) sc_law_equal_right.nd rfl (Or.inl rfl) (pe_f c_law_draw hr (pa_cons (pv 0) (pa_cons (pe_callB call_len_seq (by rfl) T.b_len (by decide +kernel) (pa_cons (pv 1) pa_nil)) pa_nil))))
      (pss_cons (ps_set (i := 6) sc_law_equal_right.nd rfl (Or.inl rfl) (pe_op op_cat (pe_op op_cat (pe_slice sl_list (pv 1) po_none (po_some (pv 5))) (pe_lst (pa_cons (pe_tup (pa_cons (pe_ix ix_tup (pe_ix ix_list (pv 1) (pv 5) (fun _ _ => rfl)) pe_int (fun _ _ => rfl)) (pa_cons (pe_op op_add (pe_ix ix_tup (pe_ix ix_list (pv 1) (pv 5) (fun _ _ => rfl)) pe_int (fun _ _ => rfl)) pe_int) pa_nil))) pa_nil))) (pe_slice sl_list (pv 1) (po_some (pe_op op_add (pv 5) pe_int)) po_none)))
      (pss_cons (ps_if (PW.pt (pw_or (pt_cmpR (ow_eqW c_Curve___eq__ hr) (pv 3) (pe_w n_Curve hr (pa_cons (pe_w n_Day hr (pa_cons (pv 2) pa_nil)) (pa_cons (pv 6) pa_nil))) (nomark _)) (pw_or1 (pt_cmpR (ow_eqW c_Curve___eq__ hr) (pv 3) (pv 1) (nomark _))))) (pss_one (ps_ret pe_bl)) pss_nil)
      (pss_one (ps_ret (pe_or (pe_cmpR op_eqi (pv 2) (pe_op op_pow pe_int pe_int) (nomark _)) (pe_one (pe_cmpR (ow_neW c_Curve___eq__ hr T.ne_Curve T.ob_Curve) (pv 3) (pe_w n_Curve hr (pa_cons (pe_w n_Day hr (pa_cons (pe_op op_add (pv 2) pe_int) pa_nil)) (pa_cons (pv 1) pa_nil))) (nomark _))))))))))), fun y qs b kk h => ?_⟩)
  obtain ⟨ps, n, rfl, hn, ok, hb, h⟩ := h
  have hS : StepsOk n ps := ok.st
  have l8 := ok.len
  have lf := fewestP_len ps
  refine s_seq (s_par ?_)
  walk_at "ge"
  refine g_new wk_curve ?_
  walk_at "ge"
  refine g_new wk_day ?_
  walk_at "ge"
  refine ⟨hn, ?_⟩
  walk_at "ge"
  refine ⟨n, ps, .inl rfl, hS, by omega, ?_⟩
  walk_at "ge"
  refine g_new wk_curve ?_
  walk_at "ge"
  refine g_new wk_day ?_
  walk_at "ge"
  refine ⟨hn, ?_⟩
  walk_at "ge"
  refine g_f wk_lawFew ?_
  walk_at "ge"
  refine ⟨by omega, ?_⟩
  walk_at "ge"
  refine ⟨n, fewestP ps, .inl rfl, hS.few, by omega, ?_⟩
  rw [few_few]
  walk_at "ge"
  refine ⟨_, _, rfl, ?_⟩
  have kcv : ∀ m fs, KT K ACurve (cvR ACurve ADay m fs) := fun m fs => kt_of (ht_cv T.C_Curve.cl T.I_Curve) T.nf_Curve_Curve
  have ktu : ∀ qs, KT K ACurve (tR qs) := fun qs => kt_of ht_t T.nf_Curve_tuple
  have kli : ∀ qs, KT K ACurve (lR qs) := fun qs => kt_of ht_l T.nf_Curve_list
  have kno : KT K ACurve Nn := kt_of ht_n T.nf_Curve_NoneType
  have W := T.W_Curve
  refine s_seq (s_ifF (t_orF (t_not ?_)))
  walk_at "ge"
  refine o2_eqV wk_cvEq isC_cv (kcv _ _) ⟨n, _, _, rfl, .inl ⟨n, _, rfl, ?_⟩⟩
  refine ⟨_, rfl, by simp, t_orF ?_⟩
  walk_at "ge"
  refine o2_neV wk_cvEq isC_cv (kcv _ _) ⟨n, _, _, rfl, .inl ⟨n, _, rfl, ?_⟩⟩
  refine ⟨_, rfl, _, rfl, by simp, t_orF ?_⟩
  walk_at "ge"
  refine oc_tuple ?_
  refine o2_eqV wk_cvEq isC_cv (ktu _) ⟨n, _, _, rfl, .inr ⟨_, ht_t, kit_to W.ic W.ty W.t, ?_⟩⟩
  refine ⟨_, rfl, rfl, t_not ?_⟩
  walk_at "ge"
  refine o2_neV wk_cvEq isC_cv kno ⟨n, _, _, rfl, .inr ⟨_, ht_n, kit_to W.ic W.ty W.n, ?_⟩⟩
  refine ⟨_, rfl, _, rfl, rfl, s_next ?_⟩
  refine s_seq (s_set ?_)
  walk_at "ge"
  refine oc_len ?_
  walk_at "ge"
  rw [List.length_map]
  refine ⟨by omega, ⟨by have := hS.ne; omega, by omega⟩, fun m m0 m1 => ?_⟩
  obtain ⟨i, rfl⟩ : ∃ i : Nat, m = (i : Int) := ⟨m.toNat, by omega⟩
  have hi : i < ps.length := by omega
  have hx := List.getElem?_eq_getElem hi
  have hx2 : atI (ps.map pr2) (i : Int) = some (pr2 ps[i]) := at_i rfl (by rw [List.getElem?_map, hx]; rfl)
  refine s_seq (s_set (G.mono (k := fun p b' => p = lR ((ps.set i (ps[i].1, ps[i].2 + 1)).map pr2) ∧ b' = b + 1) ?_ ?_))
  · walk_at "ge"
    refine g_slL ?_
    walk_at "ge"
    refine go_none (go_some ?_)
    walk_at "ge"
    refine o2_ixL hx2 ?_
    walk_at "ge"
    refine o2_ixT rfl ?_
    walk_at "ge"
    refine o2_ixL hx2 ?_
    walk_at "ge"
    refine o2_ixT rfl ?_
    walk_at "ge"
    rw [cutR_to (by rw [List.length_map]; omega)]
    refine o2_cat ?_ ?_
    · rw [List.length_take]
      simp only [List.length_cons, List.length_nil]
      omega
    refine g_slL ?_
    walk_at "ge"
    refine go_some ?_
    walk_at "ge"
    refine go_none ?_
    rw [cutR_from (i := i + 1) (by omega) (by rw [List.length_map]; omega)]
    refine o2_cat ?_ ⟨?_, rfl⟩
    · rw [List.length_append, List.length_take, List.length_drop, List.length_map]
      simp only [List.length_cons, List.length_nil]
      omega
    · rw [List.set_eq_take_append_cons_drop, if_pos hi, List.map_append, List.map_cons, List.map_take, List.map_drop, List.append_assoc]
      rfl
  rintro _ _ ⟨rfl, rfl⟩
  refine s_seq (s_ifF (t_orF ?_))
  walk_at "ge"
  refine g_new wk_curve ?_
  walk_at "ge"
  refine g_new wk_day ?_
  walk_at "ge"
  refine ⟨hn, ?_⟩
  walk_at "ge"
  refine ⟨n, _, .inl rfl, bent_ok hS hx, by rw [List.length_set]; omega, ?_⟩
  refine o2_eqV wk_cvEq isC_cv (kcv _ _) ⟨n, _, _, rfl, .inl ⟨n, _, rfl, ?_⟩⟩
  refine ⟨_, rfl, by simpa using fun z => bent_ne hS hx z.symm, ?_⟩
  walk_at "ge"
  refine o2_eqV wk_cvEq isC_cv (kli _) ⟨n, _, _, rfl, .inr ⟨_, ht_l, kit_to W.ic W.ty W.l, ?_⟩⟩
  refine ⟨_, rfl, rfl, s_next ?_⟩
  walk_at "gs"
  refine ⟨fun _ => h _ (by omega), fun ne => ?_⟩
  have e12 : (10 : Int) ^ Int.toNat 12 = 1000000000000 := by decide
  rw [e12, decide_eq_false_iff_not] at ne
  walk_at "ge"
  refine g_new wk_curve ?_
  walk_at "ge"
  refine g_new wk_day ?_
  walk_at "ge"
  refine ⟨⟨by omega, by omega⟩, ?_⟩
  walk_at "ge"
  refine ⟨n + 1, ps, .inl rfl, ⟨hS.ne, hS.z, hS.asc, fun x hx => by have := hS.inn x hx; omega⟩, by omega, ?_⟩
  refine o2_neV wk_cvEq isC_cv (kcv _ _) ⟨n, _, _, rfl, .inl ⟨n + 1, _, rfl, ?_⟩⟩
  refine ⟨_, rfl, ?_⟩
  have e0 : decide (n = n + 1 ∧ fewestP ps = fewestP ps) = false := by
    rw [decide_eq_false_iff_not]
    intro z
    omega
  rw [e0]
  exact h _ (by omega)
end
def spLaw (K : PySem.W.Frag) : Sp := fun vs H Q _ => ∃ (a : Addr) (ns : List Int), vs = [.ref a] ∧ SqL K H a (ns.map V.int) ∧ ns.length ≤ 63 ∧ ∀ H', Q (.bl true) H'
section
variable {P : Program} {w : World} {K : PySem.W.Frag} {mg : Str → Option Value} {base : Heap} {ADay ACurve : Addr}
theorem ok_law {f : Addr} {fd : FuncData} (F : Fun K "law" "law" s_law f fd) (T : Txt K mg ADay ACurve) : FnG P w K mg base CX0 8 f fd ["script"] (spLaw K) := by
  have c_law_pen := c_law_pen (P := P) (w := w) (base := base) T
  have c_law_pick := c_law_pick (P := P) (w := w) (base := base) T
  have c_law_drawn := c_law_drawn (P := P) (w := w) (base := base) T
  have c_law_curve_right := c_law_curve_right (P := P) (w := w) (base := base) T
  have c_law_equal_right := c_law_equal_right (P := P) (w := w) (base := base) T
  have n_Curve := n_Curve (P := P) (w := w) (base := base) T
  have n_Day := n_Day (P := P) (w := w) (base := base) T
  have c_Curve___getitem__ := c_Curve___getitem__ (P := P) (w := w) (base := base) T
  refine F.okG sc_law (fun vs H Q E h => ?_) (fun cdv A outer s H vs Q E hr h => ?_)
  · obtain ⟨a, ns, rfl, _⟩ := h
    rfl
  · obtain ⟨a, ns, rfl, hS, hlen, k⟩ := h
    refine ⟨_, (pss_cons (ps_set (i := 1) sc_law.nd rfl (Or.inl rfl) (pe_f c_law_pen hr (pa_cons (pv 0) pa_nil)))
      (pss_cons (ps_for PassesOwn.never rfl (pi_range1 rfl T.b_range (pa_cons pe_int pa_nil)) (pg_name (i := 2) sc_law.nd rfl (Or.inl rfl)) (pss_cons (ps_set (i := 3) sc_law.nd rfl (Or.inl rfl) (pe_f c_law_pick hr (pa_cons (pv 1) (pa_cons (pe_lst (pa_cons pe_int (pa_cons pe_int (pa_cons pe_int (pa_cons pe_int (pa_cons pe_int (pa_cons (pe_op op_pow pe_int pe_int) (pa_cons (pe_op op_sub (pe_op op_pow pe_int pe_int) pe_int) pa_nil)))))))) pa_nil))))
      (pss_cons (ps_set (i := 4) sc_law.nd rfl (Or.inl rfl) (pe_f c_law_drawn hr (pa_cons (pv 1) (pa_cons (pv 3) pa_nil))))
      (pss_one (ps_if (PW.pt (pw_or (pt_not (pt_val (pe_f c_law_curve_right hr (pa_cons (pv 1) (pa_cons (pv 4) (pa_cons (pv 3) pa_nil)))))) (pw_or1 (pt_not (pt_val (pe_f c_law_equal_right hr (pa_cons (pv 1) (pa_cons (pv 4) (pa_cons (pv 3) pa_nil))))))))) (pss_one (ps_ret pe_bl)) pss_nil)))))
      (pss_cons (ps_set (i := 5) sc_law.nd rfl (Or.inl rfl) (pe_w n_Curve hr (pa_cons (pe_w n_Day hr (pa_cons pe_int pa_nil)) (pa_cons (pe_lst (pa_cons (pe_tup (pa_cons pe_int (pa_cons pe_int pa_nil))) (pa_cons (pe_tup (pa_cons pe_int (pa_cons pe_int pa_nil))) (pa_cons (pe_tup (pa_cons pe_int (pa_cons pe_int pa_nil))) pa_nil)))) pa_nil))))
      (pss_one (ps_ret (pe_and (pe_cmpR (op_eqD hr.units) (pe_fld (pv 5) rfl) (pe_tup (pa_cons (pe_tup (pa_cons pe_int (pa_cons pe_int pa_nil))) (pa_cons (pe_tup (pa_cons pe_int (pa_cons pe_int pa_nil))) pa_nil))) (nomark _)) (pe_one (pe_cmpR (op_eqD hr.units) (pe_lst (pa_cons (pe_ixO c_Curve___getitem__ hr (pv 5) (pe_un un_neg pe_int)) (pa_cons (pe_ixO c_Curve___getitem__ hr (pv 5) pe_int) (pa_cons (pe_ixO c_Curve___getitem__ hr (pv 5) pe_int) pa_nil)))) (pe_lst (pa_cons pe_int (pa_cons pe_int (pa_cons pe_int pa_nil)))) (nomark _))))))))), ?_⟩
    refine law_start hS hlen k fun x => ?_
    refine s_seq (s_forR1 (fun i ρ' b' => ∃ u v w, ρ' = [.no, .pen, u, v, w, .no] ∧ b' ≤ 400 * i) ?_)
    walk_at "ge"
    refine ⟨⟨by decide, by decide⟩, ⟨_, _, _, rfl, by decide⟩, ?_, ?_⟩
    · rintro i _ b' hi ⟨u, v, w', rfl, hb⟩
      have hi : i < 7 := hi
      refine a_name ?_
      refine s_seq (s_set (G.mono (k := fun p b2 => ∃ n, p = RL.I n ∧ (1 ≤ n ∧ n ≤ 1000000000000) ∧ b2 = b' + 1) ?_ ?_))
      · walk_at "ge"
        refine ⟨by omega, ⟨by simp, by simp⟩, fun p hp => ?_⟩
        have e12 : (10 : Int) ^ Int.toNat 12 = 1000000000000 := by decide
        simp only [List.mem_cons, List.not_mem_nil, or_false, e12] at hp
        rcases hp with rfl | rfl | rfl | rfl | rfl | rfl | rfl <;> exact ⟨_, rfl, ⟨by omega, by omega⟩, rfl⟩
      rintro _ _ ⟨n, rfl, hn, rfl⟩
      refine s_seq (s_set ?_)
      walk_at "ge"
      refine ⟨hn, by omega, fun qs b2 ok hb2 => ?_⟩
      refine s_ifF (t_orF (t_not ?_))
      walk_at "ge"
      refine ⟨qs, n, rfl, hn, ok, by omega, fun b3 hb3 => ?_⟩
      refine ⟨_, rfl, rfl, t_not ?_⟩
      walk_at "ge"
      refine ⟨qs, n, rfl, hn, ok, by omega, fun b4 hb4 => ?_⟩
      refine ⟨_, rfl, rfl, s_next ⟨_, _, _, rfl, by omega⟩⟩
    · rintro _ b' ⟨u, v, w', rfl, hb⟩
      have hb : b' ≤ 400 * ((7 : Nat) : Int) := hb
      have ok : StepsOk 10 [(0, 1), (4, 1), (6, 0)] := ⟨by decide, fun x hx => by cases hx; rfl, fun i x y hx hy => by
        match i, hx, hy with
        | 0, hx, hy => cases hx; cases hy; decide
        | 1, hx, hy => cases hx; cases hy; decide
        | i + 2, hx, hy => simp at hy, fun x hx => by
        simp only [List.mem_cons, List.not_mem_nil, or_false] at hx
        rcases hx with rfl | rfl | rfl <;> decide⟩
      have few : fewestP [(0, 1), (4, 1), (6, 0)] = [(0, 1), (6, 0)] := by decide
      refine s_seq (s_set ?_)
      refine g_new wk_curve ?_
      walk_at "ge"
      refine g_new wk_day ?_
      walk_at "ge"
      refine ⟨⟨by decide, by decide⟩, ?_⟩
      walk_at "ge"
      refine ⟨10, [(0, 1), (4, 1), (6, 0)], .inl rfl, ok, by decide, ?_⟩
      rw [few]
      have fS : Fld K (cvR ACurve ADay 10 [(0, 1), (6, 0)]) "steps" (tR ([(0, 1), (6, 0)].map pr2)) := fld_steps T.C_Curve.cl T.na_Curve_steps
      have hd : HasD K (tR ([(0, 1), (6, 0)].map pr2)) (.tuple [.tuple [.int 0, .int 1], .tuple [.int 6, .int 0]]) := hd_t (.cons (hd_t (.cons (hd_int _) (.cons (hd_int _) .nil))) (.cons (hd_t (.cons (hd_int _) (.cons (hd_int _) .nil))) .nil))
      refine s_ret (g_andT ?_)
      walk_at "ge"
      refine o2_eqD hd hd (by decide) (by decide) ?_
      refine ⟨by rfl, ?_⟩
      have it : ∀ c : Int, (-(10 ^ 60) < c ∧ c < 10 ^ 60) → ∀ kk : RP → Prop, kk (RL.I (heightP [(0, 1), (6, 0)] (c % 10))) → preItem ACurve ADay [cvR ACurve ADay 10 [(0, 1), (6, 0)], RL.I c] kk := fun c hc kk h => ⟨10, _, c, rfl, by decide, hc, h⟩
      walk_at "ge"
      refine o2_item wk_item isC_cv (it _ ⟨by decide, by decide⟩ _ ?_)
      walk_at "ge"
      refine o2_item wk_item isC_cv (it _ ⟨by decide, by decide⟩ _ ?_)
      walk_at "ge"
      refine o2_item wk_item isC_cv (it _ ⟨by decide, by decide⟩ _ ?_)
      walk_at "ge"
      rw [show heightP [(0, 1), (6, 0)] (-1 % 10) = 0 by decide, show heightP [(0, 1), (6, 0)] (5 % 10) = 1 by decide, show heightP [(0, 1), (6, 0)] (16 % 10) = 0 by decide]
      refine o2_eqD (hd_l (.cons (hd_int _) (.cons (hd_int _) (.cons (hd_int _) .nil)))) (hd_l (.cons (hd_int _) (.cons (hd_int _) (.cons (hd_int _) .nil)))) (by decide) (by decide) rfl
end
theorem law_end {l : PySem.W.OpenLaw} {w : World} {K : PySem.W.Frag} {mg : Str → Option Value} {fa : Addr} {ADay ACurve : Addr} (T : Txt K mg ADay ACurve) (hfa : mg "law" = some (.ref fa)) :
    ∃ fd : FuncData, (∀ (s : Shared) (v : Value), BindsTo s fd ⟨[v], []⟩ [("script", v)]) ∧ ∀ base : Heap, K.In base → base.Ns mainGlobals mg → FnG l.prog w K mg base CX0 8 fa fd ["script"] (spLaw K) := by
  obtain ⟨f, fd, F, hm, b⟩ := T.d_law.ex
  have e := hfa.symm.trans hm
  cases e
  obtain ⟨oc, od, kV, doc, pm, an, cdv, ct, osl, rfl, lk, hcd⟩ := id F.ex
  exact ⟨_, fun s v => .of_eq rfl, fun base _ _ => ok_law F T⟩
theorem walk {l : PySem.W.OpenLaw} {q : Program} {loose : List Str} {XP : (Str → Option Value) → Heap → Prop} {YP : World → Heap → Prop} {d : DefRec} {K : Params → PySem.W.Frag} (hn : l.most = some 63) (hdf : d.params.defaults = [])
    (hY : ∀ (w : World) (h : Heap), YP w h → (K w.params).In h)
    (F : ∀ (w : World) (mg : Str → Option Value) (fa : Addr) (h : Heap), (K w.params).In h → h.Ns mainGlobals mg → mg d.name = some (.ref fa) →
      ∃ fd : FuncData, (∀ (s : Shared) (u : Value), BindsTo s fd ⟨[u], []⟩ [("script", u)]) ∧ ∀ base : Heap, (K w.params).In base → base.Ns mainGlobals mg → FnG l.prog w (K w.params) mg base CX0 8 fa fd ["script"] (spLaw (K w.params))) :
    PySem.W.WalkO q loose XP YP l.row.toRowW d [] (fun f vs => PySem.call f vs) :=
  OL.walk_ofG (n := 63) (k := 8) (x := "script") (CX := fun _ => CX0) (sp := fun w => spLaw (K w.params)) hn (by decide) hdf ⟨rfl, by decide, by decide⟩ hY F (fun _ _ a ns hl _ hS => ⟨a, ns, rfl, hS, hl, fun _ => rfl⟩) fun _ _ _ _ _ z => z

end OLP
open PySem PySem.W PyProof.Rows
set_option maxRecDepth 100000 in
set_option maxHeartbeats 0 in
theorem PySem.Challenge.cw_onelongturn_k23_curves_made_holds : PySem.Challenge.rw_onelongturn_k23_curves_made.Holds := by
  w_on; o_law; k_head; (case hw => w_witness2)
  k_fill
  refine OLP.walk (l := PySem.Challenge.rw_onelongturn_k23_curves_made) rfl rfl (fun w h Y => PySem.W.kIn_of Y) ?F
  case F =>
    intro w mg fa h KX G hmg
    refine' OLP.law_end (OLP.Txt.mk ?d_is_int ?d_is_number_from_one ?d_is_moment ?m_Day___init__ ?m_Day___rmod__ ?m_Day___rfloordiv__ ?m_Day___contains__ ?m_Day___eq__ ?m_Day___str__ ?m_Curve___init__ ?m_Curve___getitem__ ?m_Curve___iter__ ?m_Curve___eq__ ?m_Curve_least ?m_Curve_greatest ?d_are_steps ?d_is_step ?d_fewest_steps ?d_spans_under ?d_height_at ?d_law_pen ?d_law_draw ?d_law_pick ?d_law_integer ?d_law_drawn ?d_law_fewest ?d_law_spans ?d_law_at ?d_law_curve_right ?d_law_equal_right ?d_law ?C_Day ?C_Curve ?R_Day ?ne_Day ?ob_Day ?I_Day ?na_Day_length ?W_Day ?R_Curve ?ne_Curve ?ob_Curve ?I_Curve ?W_Curve ?na_Curve_day ?na_Curve_steps ?na_Curve__spans ?nf_Curve_Curve ?nf_Curve_tuple ?nf_Curve_list ?nf_Curve_NoneType ?g_MOST ?g_BEYOND_MOMENTS ?b_isinstance ?b_int ?b_bool ?b_list ?b_tuple ?b_len ?b_abs ?b_range ?b_repr ?b_str ?b_all ?b_min ?b_max ?b_zip ?b_iter) hmg
    (case C_Day => (refine' OL.ClsT.of KX G ?a ?b ?c ?d ?e ?f ?g; (case a => k_is); (case b => k_is); (case c => k_is); (case d => k_is); (case e => k_is); (case f => k_is); (case g => k_is)))
    (case C_Curve => (refine' OL.ClsT.of KX G ?a ?b ?c ?d ?e ?f ?g; (case a => k_is); (case b => k_is); (case c => k_is); (case d => k_is); (case e => k_is); (case f => k_is); (case g => k_is)))
    (case d_is_int => (refine' OL.DefT.of KX G ?a ?l ?c ?k (fun _ _ _ _ _ _ us hl => match us, hl with | [_], _ => rfl); (case a => k_is); (case l => k_is); (case c => k_is); (case k => k_is)))
    (case d_is_number_from_one => (refine' OL.DefT.of KX G ?a ?l ?c ?k (fun _ _ _ _ _ _ us hl => match us, hl with | [_], _ => rfl); (case a => k_is); (case l => k_is); (case c => k_is); (case k => k_is)))
    (case d_is_moment => (refine' OL.DefT.of KX G ?a ?l ?c ?k (fun _ _ _ _ _ _ us hl => match us, hl with | [_], _ => rfl); (case a => k_is); (case l => k_is); (case c => k_is); (case k => k_is)))
    (case m_Day___init__ => (refine' OL.MethT.of ?a ?i ?l ?c ?k (fun _ _ _ _ _ _ us hl => match us, hl with | [_, _], _ => rfl); (case a => k_is); (case i => k_is); (case l => k_is); (case c => k_is); (case k => k_is)))
    (case m_Day___rmod__ => (refine' OL.MethT.of ?a ?i ?l ?c ?k (fun _ _ _ _ _ _ us hl => match us, hl with | [_, _], _ => rfl); (case a => k_is); (case i => k_is); (case l => k_is); (case c => k_is); (case k => k_is)))
    (case m_Day___rfloordiv__ => (refine' OL.MethT.of ?a ?i ?l ?c ?k (fun _ _ _ _ _ _ us hl => match us, hl with | [_, _], _ => rfl); (case a => k_is); (case i => k_is); (case l => k_is); (case c => k_is); (case k => k_is)))
    (case m_Day___contains__ => (refine' OL.MethT.of ?a ?i ?l ?c ?k (fun _ _ _ _ _ _ us hl => match us, hl with | [_, _], _ => rfl); (case a => k_is); (case i => k_is); (case l => k_is); (case c => k_is); (case k => k_is)))
    (case m_Day___eq__ => (refine' OL.MethT.of ?a ?i ?l ?c ?k (fun _ _ _ _ _ _ us hl => match us, hl with | [_, _], _ => rfl); (case a => k_is); (case i => k_is); (case l => k_is); (case c => k_is); (case k => k_is)))
    (case m_Day___str__ => (refine' OL.MethT.of ?a ?i ?l ?c ?k (fun _ _ _ _ _ _ us hl => match us, hl with | [_], _ => rfl); (case a => k_is); (case i => k_is); (case l => k_is); (case c => k_is); (case k => k_is)))
    (case m_Curve___init__ => (refine' OL.MethT.of ?a ?i ?l ?c ?k (fun _ _ _ _ _ _ us hl => match us, hl with | [_, _, _], _ => rfl); (case a => k_is); (case i => k_is); (case l => k_is); (case c => k_is); (case k => k_is)))
    (case m_Curve___getitem__ => (refine' OL.MethT.of ?a ?i ?l ?c ?k (fun _ _ _ _ _ _ us hl => match us, hl with | [_, _], _ => rfl); (case a => k_is); (case i => k_is); (case l => k_is); (case c => k_is); (case k => k_is)))
    (case m_Curve___iter__ => (refine' OL.MethT.of ?a ?i ?l ?c ?k (fun _ _ _ _ _ _ us hl => match us, hl with | [_], _ => rfl); (case a => k_is); (case i => k_is); (case l => k_is); (case c => k_is); (case k => k_is)))
    (case m_Curve___eq__ => (refine' OL.MethT.of ?a ?i ?l ?c ?k (fun _ _ _ _ _ _ us hl => match us, hl with | [_, _], _ => rfl); (case a => k_is); (case i => k_is); (case l => k_is); (case c => k_is); (case k => k_is)))
    (case m_Curve_least => (refine' OL.PropT.of ?a ?b ?e ?f ?l ?c ?k (fun _ _ _ _ _ _ us hl => match us, hl with | [_], _ => rfl); (case a => k_is); (case b => k_is); (case e => k_is); (case f => k_is); (case l => k_is); (case c => k_is); (case k => k_is)))
    (case m_Curve_greatest => (refine' OL.PropT.of ?a ?b ?e ?f ?l ?c ?k (fun _ _ _ _ _ _ us hl => match us, hl with | [_], _ => rfl); (case a => k_is); (case b => k_is); (case e => k_is); (case f => k_is); (case l => k_is); (case c => k_is); (case k => k_is)))
    (case d_are_steps => (refine' OL.DefT.of KX G ?a ?l ?c ?k (fun _ _ _ _ _ _ us hl => match us, hl with | [_, _], _ => rfl); (case a => k_is); (case l => k_is); (case c => k_is); (case k => k_is)))
    (case d_is_step => (refine' OL.DefT.of KX G ?a ?l ?c ?k (fun _ _ _ _ _ _ us hl => match us, hl with | [_, _], _ => rfl); (case a => k_is); (case l => k_is); (case c => k_is); (case k => k_is)))
    (case d_fewest_steps => (refine' OL.DefT.of KX G ?a ?l ?c ?k (fun _ _ _ _ _ _ us hl => match us, hl with | [_], _ => rfl); (case a => k_is); (case l => k_is); (case c => k_is); (case k => k_is)))
    (case d_spans_under => (refine' OL.DefT.of KX G ?a ?l ?c ?k (fun _ _ _ _ _ _ us hl => match us, hl with | [_, _], _ => rfl); (case a => k_is); (case l => k_is); (case c => k_is); (case k => k_is)))
    (case d_height_at => (refine' OL.DefT.of KX G ?a ?l ?c ?k (fun _ _ _ _ _ _ us hl => match us, hl with | [_, _], _ => rfl); (case a => k_is); (case l => k_is); (case c => k_is); (case k => k_is)))
    (case d_law_pen => (refine' OL.DefT.of KX G ?a ?l ?c ?k (fun _ _ _ _ _ _ us hl => match us, hl with | [_], _ => rfl); (case a => k_is); (case l => k_is); (case c => k_is); (case k => k_is)))
    (case d_law_draw => (refine' OL.DefT.of KX G ?a ?l ?c ?k (fun _ _ _ _ _ _ us hl => match us, hl with | [_, _], _ => rfl); (case a => k_is); (case l => k_is); (case c => k_is); (case k => k_is)))
    (case d_law_pick => (refine' OL.DefT.of KX G ?a ?l ?c ?k (fun _ _ _ _ _ _ us hl => match us, hl with | [_, _], _ => rfl); (case a => k_is); (case l => k_is); (case c => k_is); (case k => k_is)))
    (case d_law_integer => (refine' OL.DefT.of KX G ?a ?l ?c ?k (fun _ _ _ _ _ _ us hl => match us, hl with | [_], _ => rfl); (case a => k_is); (case l => k_is); (case c => k_is); (case k => k_is)))
    (case d_law_drawn => (refine' OL.DefT.of KX G ?a ?l ?c ?k (fun _ _ _ _ _ _ us hl => match us, hl with | [_, _], _ => rfl); (case a => k_is); (case l => k_is); (case c => k_is); (case k => k_is)))
    (case d_law_fewest => (refine' OL.DefT.of KX G ?a ?l ?c ?k (fun _ _ _ _ _ _ us hl => match us, hl with | [_], _ => rfl); (case a => k_is); (case l => k_is); (case c => k_is); (case k => k_is)))
    (case d_law_spans => (refine' OL.DefT.of KX G ?a ?l ?c ?k (fun _ _ _ _ _ _ us hl => match us, hl with | [_, _], _ => rfl); (case a => k_is); (case l => k_is); (case c => k_is); (case k => k_is)))
    (case d_law_at => (refine' OL.DefT.of KX G ?a ?l ?c ?k (fun _ _ _ _ _ _ us hl => match us, hl with | [_, _], _ => rfl); (case a => k_is); (case l => k_is); (case c => k_is); (case k => k_is)))
    (case d_law_curve_right => (refine' OL.DefT.of KX G ?a ?l ?c ?k (fun _ _ _ _ _ _ us hl => match us, hl with | [_, _, _], _ => rfl); (case a => k_is); (case l => k_is); (case c => k_is); (case k => k_is)))
    (case d_law_equal_right => (refine' OL.DefT.of KX G ?a ?l ?c ?k (fun _ _ _ _ _ _ us hl => match us, hl with | [_, _, _], _ => rfl); (case a => k_is); (case l => k_is); (case c => k_is); (case k => k_is)))
    (case d_law => (refine' OL.DefT.of KX G ?a ?l ?c ?k (fun _ _ _ _ _ _ us hl => match us, hl with | [_], _ => rfl); (case a => k_is); (case l => k_is); (case c => k_is); (case k => k_is)))
    (case R_Day => (refine' ⟨?a, ?b, ?c⟩; (case a => k_is); (case b => k_is); (case c => k_is)))
    (case ne_Day => k_is)
    (case ob_Day => k_is)
    (case I_Day => (refine' ⟨?a, ?b, ?c, ?d⟩; (case a => k_is); (case b => k_is); (case c => k_is); (case d => k_is)))
    (case na_Day_length => k_is)
    (case W_Day => (refine' ⟨?a, ?b, ?c, ?d, ?e, ?f, ?g⟩; (case a => k_is); (case b => k_is); (case c => k_is); (case d => k_is); (case e => k_is); (case f => k_is); (case g => k_is)))
    (case R_Curve => (refine' ⟨?a, ?b, ?c⟩; (case a => k_is); (case b => k_is); (case c => k_is)))
    (case ne_Curve => k_is)
    (case ob_Curve => k_is)
    (case I_Curve => (refine' ⟨?a, ?b, ?c, ?d⟩; (case a => k_is); (case b => k_is); (case c => k_is); (case d => k_is)))
    (case W_Curve => (refine' ⟨?a, ?b, ?c, ?d, ?e, ?f, ?g⟩; (case a => k_is); (case b => k_is); (case c => k_is); (case d => k_is); (case e => k_is); (case f => k_is); (case g => k_is)))
    (case na_Curve_day => k_is)
    (case na_Curve_steps => k_is)
    (case na_Curve__spans => k_is)
    (case nf_Curve_Curve => k_is)
    (case nf_Curve_tuple => k_is)
    (case nf_Curve_list => k_is)
    (case nf_Curve_NoneType => k_is)
    (case g_MOST => (refine' OL.GlT.ofI KX G ?a; (case a => k_is)))
    (case g_BEYOND_MOMENTS => (refine' OL.GlT.ofI KX G ?a; (case a => k_is)))
    (case b_isinstance => (refine' PySem.W.mg_none_of KX G ?a; (case a => k_is)))
    (case b_int => (refine' PySem.W.mg_none_of KX G ?a; (case a => k_is)))
    (case b_bool => (refine' PySem.W.mg_none_of KX G ?a; (case a => k_is)))
    (case b_list => (refine' PySem.W.mg_none_of KX G ?a; (case a => k_is)))
    (case b_tuple => (refine' PySem.W.mg_none_of KX G ?a; (case a => k_is)))
    (case b_len => (refine' PySem.W.mg_none_of KX G ?a; (case a => k_is)))
    (case b_abs => (refine' PySem.W.mg_none_of KX G ?a; (case a => k_is)))
    (case b_range => (refine' PySem.W.mg_none_of KX G ?a; (case a => k_is)))
    (case b_repr => (refine' PySem.W.mg_none_of KX G ?a; (case a => k_is)))
    (case b_str => (refine' PySem.W.mg_none_of KX G ?a; (case a => k_is)))
    (case b_all => (refine' PySem.W.mg_none_of KX G ?a; (case a => k_is)))
    (case b_min => (refine' PySem.W.mg_none_of KX G ?a; (case a => k_is)))
    (case b_max => (refine' PySem.W.mg_none_of KX G ?a; (case a => k_is)))
    (case b_zip => (refine' PySem.W.mg_none_of KX G ?a; (case a => k_is)))
    (case b_iter => (refine' PySem.W.mg_none_of KX G ?a; (case a => k_is)))
