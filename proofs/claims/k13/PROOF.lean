import PyProof.Rows.All
import Wide.All
import OpenK.AllK
import Wide.FinOn
import HandS.ForMost
import HandS.Exc
import HandS.ExcOwn
import HandS.TryOnly
import HandS.WordsExc
import HandS.IsInst
import HandS.DictComp
import HandS.Conv
import HandS.More
import HandS.SortInts
import HandS.Small
import HandS.Evl
import KE.KBits
import HandS.OwnIter
import HandS.IterNext
import HandS.ExcInit
import HandS.ExcField
import KE.KExcInit
import HandS.Walk
import HandS.TryMany
import KE.GoesMore
import HandS.Iter
import KE.KDictZip
import KE.GoesEnum
import KE.KDictItemsList
import HandS.ListItems
import HandS.Style
import KE.KRevSl
import KE.KDictList
import HandS.Zip
import HandS.RaiseMore
import HandS.RevRange
import HandS.ExcIs
import PyProof.Rows.RegReprOcc
import PySem.Challenge.RW_selfwritten_k13_rows_that_begin_with_cod
import KE.KExcLine
set_option Elab.async false
set_option linter.all false
set_option maxRecDepth 100000
set_option maxHeartbeats 4000000
/-! Kit -/
/-! own rules over the hand layer -/
namespace My
open PySem PySem.Spec PyProof.Rows L2
section
variable {X : Cx}
theorem callR_imp {f : Value} {r r' : List V → Hp → VK → Prop} (h : CallR X f r) (i : ∀ xs H Q, r' xs H Q → r xs H Q) : CallR X f r' :=
  fun pins s σ H xs us Q I rv q => h pins s σ H xs us Q I rv (i xs H Q q)
theorem call_intI : CallR X (.type "int") (fun xs H Q => ∃ i, xs = [.int i] ∧ Q (.int i) H) := callR_imp call_int1 fun _ _ _ h => .inl h
theorem call_intB : CallR X (.type "int") (fun xs H Q => ∃ k, xs = [.bl k] ∧ Q (.int (if k then 1 else 0)) H) := callR_imp call_int1 fun _ _ _ h => .inr h
theorem call_lenL : CallR X (.builtin "len") (fun xs H Q => ∃ p ys, xs = [.ref p] ∧ SqL X.K H p ys ∧ Q (.int ys.length) H) := callR_imp call_len_seq fun _ _ _ ⟨p, ys, e, h, q⟩ => ⟨p, ys, e, .inl h, q⟩
theorem call_lenT : CallR X (.builtin "len") (fun xs H Q => ∃ p ys, xs = [.ref p] ∧ SqT X.K H p ys ∧ Q (.int ys.length) H) := callR_imp call_len_seq fun _ _ _ ⟨p, ys, e, h, q⟩ => ⟨p, ys, e, .inr h, q⟩
theorem call_listL : CallR X (.type "list") (fun xs H Q => ∃ p ys, xs = [.ref p] ∧ SqL X.K H p ys ∧ ∀ l, H l = none → Q (.ref l) (upd H l (.lst ys))) := callR_imp call_list_of fun _ _ _ ⟨p, ys, e, h, q⟩ => ⟨p, ys, e, .inl h, q⟩
theorem call_listT : CallR X (.type "list") (fun xs H Q => ∃ p ys, xs = [.ref p] ∧ SqT X.K H p ys ∧ ∀ l, H l = none → Q (.ref l) (upd H l (.lst ys))) := callR_imp call_list_of fun _ _ _ ⟨p, ys, e, h, q⟩ => ⟨p, ys, e, .inr h, q⟩
theorem call_tupleL : CallR X (.type "tuple") (fun xs H Q => ∃ p ys, xs = [.ref p] ∧ SqL X.K H p ys ∧ ∀ l, H l = none → Q (.ref l) (upd H l (.tup ys))) := callR_imp call_tuple_of fun _ _ _ ⟨p, ys, e, h, q⟩ => ⟨p, ys, e, .inl ⟨h, q⟩⟩
theorem call_isTy : CallR X (.builtin "isinstance") (fun xs H Q => ∃ x t c, xs = [x, .ty c] ∧ TyX X.K H x (.type t) ∧ ∃ b, kitB t c = some b ∧ Q (.bl b) H) :=
  callR_imp call_isi fun _ _ _ ⟨x, t, c, e, h, b, k, q⟩ => ⟨x, .ty c, .type t, .type c, b, e, .ty c, h, kit_ty k, q⟩
theorem call_isTy2 : CallR X (.builtin "isinstance") (fun xs H Q => ∃ x t c d tp, xs = [x, .ref tp] ∧ H tp = some (.tup [.ty c, .ty d]) ∧ TyX X.K H x (.type t) ∧ ∃ b b', kitB t c = some b ∧ kitB t d = some b' ∧ Q (.bl (b || b')) H) :=
  callR_imp call_isiT fun _ _ _ ⟨x, t, c, d, tp, e, ht, h, b, b', k, k', q⟩ => ⟨x, tp, [.ty c, .ty d], .type t, [.type c, .type d], (b || b'), e, ht, .cons (.ty c) (.cons (.ty d) .nil), h,
    kitAny_cons (kit_ty k) (fun z => by rw [z]; exact kitAny_cons (kit_ty k') (fun z' => by rw [z']; exact kitAny_nil) (fun z' => by rw [z']; rfl)) (fun z => by rw [z]; rfl), q⟩
theorem k_ii : kitB "int" "int" = some true := by decide +kernel
theorem k_bi : kitB "bool" "int" = some true := by decide +kernel
theorem k_ni : kitB "NoneType" "int" = some false := by decide +kernel
theorem k_si : kitB "str" "int" = some false := by decide +kernel
theorem k_li : kitB "list" "int" = some false := by decide +kernel
theorem k_ib : kitB "int" "bool" = some false := by decide +kernel
theorem k_bb : kitB "bool" "bool" = some true := by decide +kernel
theorem k_ll : kitB "list" "list" = some true := by decide +kernel
theorem k_lt : kitB "list" "tuple" = some false := by decide +kernel
theorem k_tl : kitB "tuple" "list" = some false := by decide +kernel
theorem k_tt : kitB "tuple" "tuple" = some true := by decide +kernel
theorem k_nl : kitB "NoneType" "list" = some false := by decide +kernel
theorem k_nt : kitB "NoneType" "tuple" = some false := by decide +kernel
theorem pe_fldA {e : Expr} {ta : TE} {f : Str} {pos : Pos} (he : PE X e ta) (hb : attributeBase e f X.env (eval e X.env) = eval e X.env := by rfl) : PE X (.Attribute e f pos) (tFld X.K ta f) := pe_fld he hb
/-- X(), X an own exception class without own __init__ -/
theorem pmk_0 {C : Addr} {bmB : List Value} {B newId initId : String} {x : Str} {p pos : Pos} (F : ExcBaseFacts B newId initId bmB) (q : PySem.W.excIn X.K C bmB newId = true) (gC : X.mg x = some (.ref C))
    (kC : PySem.W.keepIn X.K (.ref C) = true) (r : Raises X (.ref C)) (hg : Gl X x) (hdb : (x == ("__debug__" : Str)) = false := by decide) :
    PMk X (.Call (.Name x p) [] [] pos) (fun _ H Q => Q (.ref C) none H) := by
  intro pins s σ H Q I h
  refine wpAny_Call_Name_kw (ld_glob I hg gC ?_ hdb)
  refine PySem.W.callWith_K0 I.kIn kC ?_
  obtain ⟨bm, N, nm, qn, bs, hdct, sn, sub, ab, col, dd, k0, k1, k2, k3, k5, mN, hC, hN, hni, T⟩ := exc_obj I.kIn q
  refine wpAny_call_exc_subT F T hC hN hni (fun h' e hm => ?_) (Nat.zero_le _)
  exact mk_of I hm r h (I.hok.gone hm.new)
theorem sw_trueD {kx vx : Expr} {gs : List Comprehension} {scope : Scope} {pos py : Pos} {y : Str} {l : Nat} {env : Env} (hk : env.scope.kind = .function) (hy : env.scope.names.lookup y = some .local) (hl : (py.line == pos.line) = true)
    (ha : (scope.names.any fun (n, k) => n == y && (k == .local || k == .cell)) = false) : swapsWith (.DictComp kx vx gs scope pos) (some (.Name y py)) l env = pure true := by
  have ky : env.kindOf y = some .local := hy
  have hb : env.blockKind = .function := by unfold Env.blockKind; rw [hk]; rfl
  unfold swapsWith
  simp only [hb, ky, ha, Expr.pos, hl]
  rfl
theorem ps_setDc {i : Nat} {y : Str} {py : Pos} {kx vx tg iter : Expr} {ifs : List Expr} {scope : Scope} {own : List (Str × Nat)} {pos spos : Pos} {wi : TI} {g : TG} {tt : TT} {tk tv : TE} (hc : X.calm = true) (hN : X.N.Nodup) (hy : X.N[i]? = some y) (hyl : X.env.scope.names.lookup y = some .local)
    (hsw : swapsWith (.DictComp kx vx [⟨tg, iter, ifs, 0⟩] scope pos) (some (.Name y py)) spos.line X.env = pure true) (hi : PI X tg iter wi) (ok : BlkOk X.N X.env.scope scope own)
    (hg : ∀ (s : Shared) (H : Hp) (C : Addr) (cl : List (Str × Addr)) (fp : List Addr), PG (X.blk s H scope (compEnvC scope cl C X.env) fp) tg g) (ht : ∀ (s : Shared) (H : Hp) (C : Addr) (cl : List (Str × Addr)) (fp : List Addr), PTs (X.blk s H scope (compEnvC scope cl C X.env) fp) ifs tt)
    (hk : ∀ (s : Shared) (H : Hp) (C : Addr) (cl : List (Str × Addr)) (fp : List Addr), PE (X.blk s H scope (compEnvC scope cl C X.env) fp) kx tk)
    (he : ∀ (s : Shared) (H : Hp) (C : Addr) (cl : List (Str × Addr)) (fp : List Addr), PE (X.blk s H scope (compEnvC scope cl C X.env) fp) vx tv) (hs : ∀ x, foldedSetIterable iter X.env x = pure x := by intro _; rfl) :
    PS X (.Assign [.Name y py] (.DictComp kx vx [⟨tg, iter, ifs, 0⟩] scope pos) spos) (tAsg (tDc wi g tt tk tv (own.map (·.2))) (gName i)) := by
  refine ⟨fun pins s σ H D I h => ?_⟩
  rw [exec_Assign_Name_used _ _ _ _ hsw]
  refine wpAny_bind (wpAny_standAt (wpAny_bind ?_))
  show wpAny _ X.A (do let _ ← comprehension (.DictComp kx vx [⟨tg, iter, ifs, 0⟩] scope pos) scope X.env (firstIterPos [⟨tg, iter, ifs, 0⟩] pos) (newDict #[]) false (eval iter X.env) (some (assign (.Name y py) X.env))) _ _ s
  have h : tDc wi g tt tk tv (own.map (·.2)) σ H (fun x H1 => gName i x σ H1 D.nx) := h
  refine wpAny_bind (thn (dc_core (Qf := fun _ s' => SP X pins D .next s') hc hN I hi ok hg ht hk he hs h fun L C s' m H' I' q hn f => ?_) fun _ s' hq => wpAny_pure (wpAny_pure hq))
  show wpAny _ _ (assign (.Name y py) X.env (.ref L)) _ _ _
  refine wpAny_assign_Name (store_ok2 (v := V.ref L) I' hN hy (.inl hyl) rfl (fun s2 I2 ⟨a, sb, ha⟩ => ?_) (.inr hyl))
  obtain ⟨f0, f1, f2, f3, f4, f5⟩ := f
  have haC : C ≠ a := by
    rcases ha with z | z
    · rw [z]; exact f1
    · exact fun e => f4 y a z e.symm
  refine ⟨m, hn.sameBut sb haC, fun h3 sb3 => ?_⟩
  exact ⟨_, H', I2.turned (t' := s2.toks) (fun b o hb e => (sb3.2 b hb).trans e) f0 f1 f3 f4 f5, q⟩
end
end My

/-! Kit2 -/
/-! len(o), list(o) of an own class with __len__, __iter__ -/
namespace My
open PySem PySem.Spec L2
section
variable {X : Cx} {pins : List (Addr × Obj)} {σ : L2.St} {H : Hp} {s : Shared}
/-- a def called from within a built-in -/
theorem run_in {A1 : Around} {k : Nat} {f : Addr} {fd : FuncData} {sp : Sp} {a : Addr} {Q : VK} {Q' : Value → Shared → Prop} {E' : Value → Shared → Prop} (sb : Sub X k A1) (FL : FnOk X.prog X.w X.K X.mg X.base CX0 k f fd ["self"] sp) (bL : Binds X.K fd ["self"] [])
    (I : Inv X pins σ H s) (hsp : sp [.ref a] H Q E0) (h : ∀ u s' v H', Inv X pins σ H' s' → RelV v u → Q v H' → Q' u s') :
    wpAny (model X.prog X.w) A1 (call (.ref f) [.ref a]) Q' E' s := by
  have e0 : Env0 X.prog X.w X.K X.mg X.base A1 X.stack s H := by
    have e := I.env0
    exact ⟨by rw [sb.fr]; exact e.frames, e.mod, e.bs, e.bsz, e.funs, e.frf, e.hok, e.bare⟩
  have hl := FL.len _ _ _ _ hsp
  have r2 : Vals [V.ref a] [Value.ref a] := .cons rfl .nil
  refine wpAny_call (codeAny_mono (FL.run A1 X.stack s H ⟨[.ref a], []⟩ [.ref a] [.ref a] Q E0 sb.room e0 (by
    have := bL s [.ref a] I.kIn (by simpa using hl)
    simpa using this) r2 hsp) fun r s' hq => ?_)
  cases r with
  | error e => exact False.elim hq
  | ok fl =>
    cases fl with
    | ret u =>
      obtain ⟨v, H', I', rv, q⟩ := I.after hq
      exact h u s' v H' I' rv q
    | next => exact False.elim hq
    | brk => exact False.elim hq
    | cont => exact False.elim hq
theorem len_in {A : Around} {k : Nat} {C f a dx : Addr} {fs : List (Str × V)} {fd : FuncData} {sp : Sp} {n : Nat} {Q : Value → Shared → Prop} {E' : Value → Shared → Prop} (hl : PySem.W.findIn X.K (.ref C) "__len__" = some (some (.ref f))) (hf : PySem.W.typeIn X.K (.ref f) = some (.type "function"))
    (FL : FnOk X.prog X.w X.K X.mg X.base CX0 k f fd ["self"] sp) (bL : Binds X.K fd ["self"] []) (sb : Sub X (k + 1) A) (I : Inv X pins σ H s) (ha : H a = some (.ins C dx fs)) (hn : n < 2 ^ 63)
    (hsp : sp [.ref a] H (fun v H' => v = .int n ∧ H' = H) E0) (h : ∀ t s', Inv X pins σ H s' → Q (.int n t) s') : wpAny (model X.prog X.w) A (call (.builtin "len") [.ref a]) Q E' s := by
  obtain ⟨mA, J, _⟩ := ins_get I.hok ha
  obtain ⟨od, J, _⟩ := J.look
  refine Calls.call_function_entry kind_len plain_len entry_len (args_len1 _) ?_
  unfold Builtin.«len»
  refine wpAny_bind (m := oneArg "len" _) (wpAny_pure ?_)
  refine wpAny_bind (m := callSpecial? (.ref a) (Str.ofString "__len__")) (PySem.W.special_fn I.kIn J hl hf ?_)
  refine run_in sb.in1 FL bL I hsp fun u s' v H' I' rv q => ?_
  obtain ⟨ev, eH⟩ := q
  subst ev
  rw [eH] at I'
  obtain ⟨t, rfl⟩ := rv
  refine wpAny_bind (wpAny_holding (wpAny_pure ?_))
  refine wpAny_bind (wpAny_letGo ?_)
  show wpAny _ _ (if (n : Int) < 0 then _ else _) _ _ _
  rw [if_neg (by omega)]
  show wpAny _ _ (if (n : Int) ≥ 2 ^ 63 then _ else _) _ _ _
  rw [if_neg (by omega)]
  exact wpAny_bind (wpAny_mkInt (wpAny_pure ⟨_, rfl, h _ _ (I'.tok _)⟩))
theorem call_lenOwn {k : Nat} {C f : Addr} {fd : FuncData} {sp : Sp} (hl : PySem.W.findIn X.K (.ref C) "__len__" = some (some (.ref f))) (hf : PySem.W.typeIn X.K (.ref f) = some (.type "function"))
    (FL : FnOk X.prog X.w X.K X.mg X.base CX0 k f fd ["self"] sp) (bL : Binds X.K fd ["self"] []) (hr : Room (k + 1) X.A) :
    CallR X (.builtin "len") (fun xs H Q => ∃ a dx fs n, xs = [.ref a] ∧ H a = some (.ins C dx fs) ∧ sp [.ref a] H (fun v H' => v = .int (n : Nat) ∧ H' = H) E0 ∧ n < 2 ^ 63 ∧ Q (.int n) H) := by
  intro pins s σ H xs us Q I rv h
  obtain ⟨a, dx, fs, n, rfl, ha, hsp, hn, q⟩ := h
  obtain ⟨u, rfl, ru⟩ := rv.one
  cases ru
  exact len_in hl hf FL bL ⟨hr, rfl⟩ I ha hn hsp fun t s' I' => ⟨.int n, H, I', ⟨_, rfl⟩, q⟩
/-- at it: an iterator over the list at l -/
def ItX (l it : Addr) (i : Nat) : HO := .ext fun h => h.IsListIter it l i
def AnyO (a : Addr) : HO := .ext fun h => ∃ o, h.get? a = some o
theorem itX_ok {P : Program} {w : World} {H : Hp} {h : Heap} {l it : Addr} {i : Nat} (e : h.IsListIter it l i) : ObjOk P w H h it (ItX l it i) := by
  obtain ⟨o, e1, e2, e3⟩ := e
  exact ⟨⟨o, e1, e2, e3⟩, ⟨_, e1⟩, fun h1 h2 q k => by obtain ⟨o', q1, q2, q3⟩ := q; exact ⟨o', k _ q1, q2, q3⟩⟩
theorem anyO_ok {P : Program} {w : World} {H : Hp} {h : Heap} {a : Addr} (e : ∃ o, h.get? a = some o) : ObjOk P w H h a (AnyO a) :=
  ⟨e, e, fun h1 h2 q k => by obtain ⟨o', q1⟩ := q; exact ⟨o', k _ q1⟩⟩
theorem next_end2 {prog : Program} {w : World} {A : Around} {E : Value → Shared → Prop} {s : Shared} {it l : Addr} {i : Nat} {items} {Q : Option Value → Shared → Prop} (hh : A.handled = none)
    (hit : s.heap.IsListIter it l i) (hl : s.heap.IsList l items) (hx : items[i]? = none)
    (hQ : ∀ h', Heap.ExtBut it s.heap h' → (∃ o, h'.get? it = some o) → Q none { s with heap := h' }) : wpAny (model prog w) A (pyNext (.ref it)) Q E s := by
  obtain ⟨o, ho, hc, hd⟩ := id hit
  obtain ⟨ol, hol, _, nl, hdl⟩ := hl
  unfold pyNext
  refine wpAny_bind (wpAny_attempt (wpAny_callSpecial?_slot (name := Str.ofString "__next__") hit.typeIs slot_listiter_next
    (wpAny_call_entry slot_listiter_next hit.typeIs entry_listiter_next ?_ (args_listiter_next _))))
  show wpAny _ _ (field (.ref it) 0 >>= _) _ _ s
  refine wpAny_bind (wpAny_field ho hd (x := .ref l) rfl ?_)
  show wpAny _ _ (if (Value.ref l == Value.none) = true then _ else _) _ _ s
  rw [if_neg (show ¬ ((Value.ref l == Value.none) = true) from Bool.false_ne_true)]
  show wpAny _ _ (field (.ref it) 1 >>= _) _ _ s
  refine wpAny_bind (wpAny_field ho hd (x := .int i 0) rfl ?_)
  show wpAny _ _ (seqItems? (.ref l) >>= _) _ _ s
  refine wpAny_bind (wpAny_seqItems hol hdl ?_)
  simp only [Int.toNat_natCast, hx]
  refine wpAny_bind (wpAny_rule (wpAny_bind (wpAny_setField ho hd (by simp) ?_)))
  show wpAny _ _ (newExc (.type "StopIteration") [] >>= _) _ _ _
  refine wpAny_bind ?_
  simp only [newExc, newTuple]
  refine wpAny_bind (wpAny_newObj_type ?_ (by size_fits))
  refine wpAny_bind (m := firstArgMember _ _) (wpAny_of_eq (a := Value.none) (by first | rfl | (simp only [firstArgMember]; rfl)) ?_)
  refine wpAny_newObj_type ?_ (by size_fits)
  simp only [raiseNew]
  refine wpAny_bind (wpAny_handled ?_)
  rw [show A.in1.handled = none from hh]
  refine wpAny_bind (wpAny_pure (wpAny_throw ?_))
  refine wpAny_bind (wpAny_isInstance (T := "StopIteration") (b := true) ⟨_, Heap.get?_push_size _ rfl, rfl⟩ isSubtype_stop ?_)
  refine wpAny_pure (hQ _ (((Heap.SameBut.update ..).extBut.push _).push _) ⟨_, Heap.get?_push_of_some _ (Heap.get?_push_of_some _ (Heap.get?_update_self _ ho (Obj.isFreed_of_fields (Obj.data_mapFields hd _))))⟩)
theorem list_loop {A1 : Around} {it l q : Addr} {ys : List V} {H0 : Hp} {Rs : Result → Shared → Prop} (hh : A1.handled = none) (hil : l ≠ it) (hiq : q ≠ it) (hlq : l ≠ q) (hz : ys.length < sizeLine)
    (hdone : ∀ H s, Inv X pins σ H s → (∀ b, b ≠ it → b ≠ q → H b = H0 b) → H q = some (.lst ys) → Rs (.ok (.ret .none)) s) :
    ∀ (m i : Nat) (H : Hp) (s : Shared), m = ys.length - i → i ≤ ys.length → Inv X pins σ H s → (∀ b, b ≠ it → b ≠ q → H b = H0 b) → H l = some (.lst ys) → H it = some (ItX l it i) → H q = some (.lst (ys.take i)) →
      codeAny (model X.prog X.w) A1 (.builtin "list.extend.loop" ⟨[.ref q, .ref it, .none], []⟩) Rs s := by
  intro m
  induction m with
  | zero =>
    intro i H s hm hi I hk hl hit hq
    refine codeAny_builtin PySem.F.entry_extend_loop ?_
    rw [Around.under_plainId PySem.F.plain_extend_loop _]
    show wpAny _ A1.in1 (pyNext (.ref it) >>= _) _ _ s
    have hin : s.heap.IsListIter it l i := (I.hok it _ hit).1
    obtain ⟨its, rv, p, _⟩ := I.list (SqL.of hl)
    have hlen := rv.length
    refine wpAny_bind (next_end2 hh hin p.isList (by simp; omega) fun h' eb he => ?_)
    have I2 : Inv X pins σ (upd H it (AnyO it)) { s with heap := h' } := I.write (t' := s.toks) (x := it) (e := it) (o := AnyO it) (by rw [hit]; exact True.intro) (.inl rfl) (fun b o hb e => eb b o hb e) he (anyO_ok he)
    have ei : i = ys.length := by omega
    refine wpAny_pure (hdone _ _ I2 (fun b h1 h2 => by rw [upd_ne h1]; exact hk b h1 h2) ?_)
    rw [upd_ne hiq, hq, ei, List.take_length]
  | succ m ih =>
    intro i H s hm hi I hk hl hit hq
    refine codeAny_builtin PySem.F.entry_extend_loop ?_
    rw [Around.under_plainId PySem.F.plain_extend_loop _]
    show wpAny _ A1.in1 (pyNext (.ref it) >>= _) _ _ s
    have hin : s.heap.IsListIter it l i := (I.hok it _ hit).1
    obtain ⟨its, rv, p, _⟩ := I.list (SqL.of hl)
    have hlt : i < ys.length := by omega
    obtain ⟨u, hu, ru⟩ := rv.get (List.getElem?_eq_getElem hlt)
    refine wpAny_bind (wpAny_pyNext_list_item hin p.isList (x := u) (by simpa using hu) fun h' st' sb => ?_)
    obtain ⟨o', e1, _⟩ := id st'
    have I2 : Inv X pins σ (upd H it (ItX l it (i + 1))) { s with heap := h' } := I.write (t' := s.toks) (x := it) (e := it) (o := ItX l it (i + 1)) (by rw [hit]; exact True.intro) (.inl rfl) (fun b o hb e => (sb.2 b hb).trans e) ⟨_, e1⟩ (itX_ok st')
    have hq2 : upd H it (ItX l it (i + 1)) q = some (.lst (ys.take i)) := by rw [upd_ne hiq]; exact hq
    show wpAny _ A1.in1 (updateSeq q (·.push u) >>= _) _ _ _
    obtain ⟨z, its2, k, r2, hl2, e⟩ := I2.lstM hq2
    have hl3 : (ys.take i).length < sizeLine := by rw [List.length_take]; omega
    refine wpAny_bind (wpAny_updateSeq e rfl (wpAny_pure ⟨plainId_quiet PySem.F.plain_extend_loop _, ?_⟩) (by rw [List.size_toArray]; omega) (by show (its2.toArray.push u).size ≤ sizeLine + 1; rw [Array.size_push, List.size_toArray]; omega))
    have et : ys.take (i + 1) = ys.take i ++ [ys[i]] := by rw [List.take_add_one, List.getElem?_eq_getElem hlt]; rfl
    refine ih (i + 1) _ _ (by omega) hlt (I2.lset (ys := ys.take (i + 1)) (its' := its2 ++ [u]) (t' := s.toks) hq2 e (by simp) (by rw [et]; exact r2.append (.cons ru .nil)) (by rw [List.length_take]; omega)) (fun b h1 h2 => ?_) ?_ ?_ upd_same
    · rw [upd_ne h2, upd_ne h1]; exact hk b h1 h2
    · rw [upd_ne hlq, upd_ne hil]; exact hl
    · rw [upd_ne hiq.symm, upd_same]
theorem hint_own {A : Around} {k : Nat} {C fl a dx : Addr} {fs : List (Str × V)} {fd : FuncData} {sp : Sp} {n : Nat} {Q : Bool → Shared → Prop} {E' : Value → Shared → Prop} (hl : PySem.W.findIn X.K (.ref C) "__len__" = some (some (.ref fl))) (hf : PySem.W.typeIn X.K (.ref fl) = some (.type "function"))
    (FL : FnOk X.prog X.w X.K X.mg X.base CX0 k fl fd ["self"] sp) (bL : Binds X.K fd ["self"] []) (sb : Sub X (k + 1) A) (I : Inv X pins σ H s) (ha : H a = some (.ins C dx fs)) (hn : n < sizeLine)
    (hsp : sp [.ref a] H (fun v H' => v = .int n ∧ H' = H) E0) (h : ∀ b s', Inv X pins σ H s' → Q b s') : wpAny (model X.prog X.w) A (Builtin.List.listLengthHint (.ref a)) Q E' s := by
  obtain ⟨mA, J, _⟩ := ins_get I.hok ha
  obtain ⟨od, J, _⟩ := J.look
  unfold Builtin.List.listLengthHint
  refine wpAny_bind (wpAny_bind (J.type.here ((PySem.W.looks_findIn I.kIn hl).here ?_)))
  refine PySem.W.KFB.if_not rfl ?_
  refine PySem.W.KFB.if_so rfl ?_
  refine wpAny_bind (wpAny_rule ?_)
  have hs : sizeLine = 16777216 := sizeLine_eq
  refine wpAny_bind (wpAny_attempt (len_in hl hf FL bL sb I ha (by omega) hsp fun t s' I' => ?_))
  show wpAny _ _ (if Builtin.List.listTooLong (n : Int).toNat = true then _ else pure ((n : Int) != 0)) _ _ _
  have hz : Builtin.List.listTooLong (n : Int).toNat = false := notLongL (by rw [Int.toNat_natCast]; omega)
  rw [if_neg (by rw [hz]; exact Bool.false_ne_true)]
  exact wpAny_pure (h _ _ I')
theorem call_listOwn2 {k : Nat} {C fi fl : Addr} {fdI fdL : FuncData} {spI spL : Sp} (hit : PySem.W.findIn X.K (.ref C) "__iter__" = some (some (.ref fi))) (hiF : PySem.W.isFn X.K (.ref fi) = true)
    (hl : PySem.W.findIn X.K (.ref C) "__len__" = some (some (.ref fl))) (hf : PySem.W.typeIn X.K (.ref fl) = some (.type "function"))
    (FI : FnOk X.prog X.w X.K X.mg X.base CX0 k fi fdI ["self"] spI) (bI : Binds X.K fdI ["self"] []) (FL : FnOk X.prog X.w X.K X.mg X.base CX0 k fl fdL ["self"] spL) (bL : Binds X.K fdL ["self"] []) (hc : X.calm = true) (hr : Room (k + 3) X.A) :
    CallR X (.type "list") (fun xs H Q => ∃ a dx fs l ys, xs = [.ref a] ∧ H a = some (.ins C dx fs) ∧ H l = some (.lst ys) ∧ ys.length < sizeLine ∧
      (∀ H1, Same H H1 → spI [.ref a] H1 (fun v H' => ∃ it, v = .ref it ∧ H1 it = none ∧ H' = upd H1 it (ItO l it 0)) E0 ∧ spL [.ref a] H1 (fun v H' => v = .int (ys.length : Nat) ∧ H' = H1) E0) ∧
      ∀ q H', H q = none → Same H H' → H' q = some (.lst ys) → Q (.ref q) H') := by
  intro pins s σ H xs us Q I rv h
  obtain ⟨a, dx, fs, l, ys, rfl, ha, hL, hz, hsp, hq⟩ := h
  obtain ⟨u, rfl, ru⟩ := rv.one
  cases ru
  have sb : Sub X (k + 1) X.A.in1.in1 := (Sub.in1 (Sub.in1 (⟨hr, rfl⟩ : Sub X (k + 3) X.A)))
  have sb0 : Sub X k X.A.in1.in1 := sb.mono (Nat.le_succ _)
  refine callType_codes (Q₁ := fun obj s₁ => obj = .ref s.heap.objs.size ∧ s₁ = { s with heap := s.heap.push { cls := .type "list", data := .seq #[] } }) PySem.F.called_list (PySem.F.typeCall_list_1 _) PySem.F.entry_list_init
    (code_list_new _ ⟨rfl, rfl⟩) fun obj s₁ h₁ => ?_
  obtain ⟨rfl, rfl⟩ := h₁
  have hS : (s.heap.push { cls := .type "list", data := .seq #[] }).get? s.heap.objs.size = some { cls := .type "list", data := .seq #[] } := Heap.get?_push_size _ rfl
  refine ⟨⟨_, hS, rfl⟩, PySem.F.args_list_init_2 _ _, ?_⟩
  have fr : H s.heap.objs.size = none := I.hok.fresh (Nat.le_refl _)
  generalize hqe : s.heap.objs.size = q at *
  have I1 : Inv X pins σ (upd H q (.lst [])) { s with heap := s.heap.push { cls := .type "list", data := .seq #[] } } := by
    have := I.lnew (its := []) (ys := []) (t' := s.toks) .nil (Nat.zero_le _)
    rw [hqe] at this
    exact this
  show wpAny _ _ (do let old ← Builtin.List.listItems (.ref q); Builtin.List.listUpdate (.ref q) (fun _ => #[]); letGo old.toList.reverse; Builtin.List.listExtendWith (.ref q) (.ref a) .none) _ _ _
  refine wpAny_bind ?_
  unfold Builtin.List.listItems
  refine wpAny_bind (wpAny_seqItems hS rfl (wpAny_pure ?_))
  show wpAny _ _ (updateSeq q (fun _ => #[]) >>= fun _ => letGo (#[] : Array Value).toList.reverse >>= fun _ => Builtin.List.listExtendWith (.ref q) (.ref a) .none) _ _ _
  refine wpAny_bind (wpAny_updateSeq hS rfl ?_)
  have I2 := I1.lset (f := fun _ => #[]) (its := []) (its' := []) (ys := []) (t' := s.toks) upd_same hS rfl .nil (Nat.zero_le _)
  rw [upd_upd] at I2
  refine wpAny_bind (wpAny_letGo ?_)
  have s2 : Same H (upd H q (.lst [])) := fun b o e => by rw [upd_ne (ne_of_none e fr)]; exact e
  have ha2 := s2 _ _ ha
  have hne : q ≠ a := (ne_of_none ha fr).symm
  have hql : l ≠ q := ne_of_none hL fr
  obtain ⟨mA, J, _⟩ := ins_get I2.hok ha2
  obtain ⟨od, J, _⟩ := J.look
  obtain ⟨m0, hF⟩ := I2.fr
  unfold Builtin.List.listExtendWith
  refine wpAny_bind (J.type.here ?_)
  have h1 : Builtin.List.listSameRef (.ref q) (.ref a) = false := by simp [Builtin.List.listSameRef, hne]
  have h2 : (Value.ref C == Value.type "list") = false := rfl
  have h3 : (Value.ref C == Value.type "tuple") = false := rfl
  simp only [h1, h2, h3, Bool.or_false, Bool.false_eq_true, if_false]
  obtain ⟨hspI, hspL⟩ := hsp _ s2
  refine wpAny_bind (PySem.W.owit_iter hF I2.ok.mod.kin J hit hiF ?_)
  refine run_in sb0 FI bI I2 hspI fun u s' v H' I' rv q' => ?_
  obtain ⟨it, ev, hn, eH⟩ := q'
  subst ev
  subst eH
  cases rv
  have hin : s'.heap.IsListIter it l 0 := by
    have e := itO_get I' upd_same
    exact ⟨_, e, rfl, rfl⟩
  unfold PySem.W.OwitIt
  refine wpAny_bind (wpAny_typeOf hin.typeIs ?_)
  rw [slot_listiter_next.lookup]
  refine wpAny_pure ?_
  have qit : q ≠ it := ne_of_none (show upd H q (.lst []) q = some _ from upd_same) hn
  have lit : l ≠ it := ne_of_none (s2 _ _ hL) hn
  have ait : a ≠ it := ne_of_none ha2 hn
  -- the iterator, tracked by what is asked of it
  have I3 : Inv X pins σ (upd (upd H q (.lst [])) it (ItX l it 0)) s' := by
    have := I'.write (t' := s'.toks) (h' := s'.heap) (x := it) (e := it) (o := ItX l it 0) (by rw [upd_same]; exact True.intro) (.inl rfl) (fun _ _ _ e => e) (by obtain ⟨o, e, _⟩ := hin; exact ⟨o, e⟩) (itX_ok hin)
    rw [upd_upd] at this
    exact this
  have s3 : Same H (upd (upd H q (.lst [])) it (ItX l it 0)) := fun b o e => by rw [upd_ne (ne_of_none (s2 _ _ e) hn)]; exact s2 _ _ e
  obtain ⟨_, hspL3⟩ := hsp _ s3
  refine wpAny_bind (wpAny_holding (hint_own hl hf FL bL sb I3 (s3 _ _ ha) hz hspL3 fun b s4 I4 => ?_))
  have go : ∀ s5 : Shared, Inv X pins σ (upd (upd H q (.lst [])) it (ItX l it 0)) s5 →
      codeAny (model X.prog X.w) X.A.in1 (.builtin "list.extend.loop" ⟨[.ref q, .ref it, .none], []⟩) (wants (fun r s₂ => r = .none ∧ EP X pins σ Q (.ref q) s₂) X.xe) s5 := fun s5 I5 => by
    refine list_loop (H0 := H) (ys := ys) (show X.A.in1.handled = none from I.ok.hd hc) lit qit hql hz (fun H6 s6 I6 hk hq6 => ⟨rfl, .ref q, H6, I6, rfl, hq q H6 fr (fun b o e => ?_) hq6⟩) _ 0 _ s5 rfl (Nat.zero_le _) I5 (fun b h1 h2 => by rw [upd_ne h1, upd_ne h2]) (s3 _ _ hL) upd_same (by rw [upd_ne qit, upd_same]; rfl)
    rw [hk b (ne_of_none (s2 _ _ e) hn) (ne_of_none e fr)]
    exact e
  have hq4 : upd (upd H q (.lst [])) it (ItX l it 0) q = some (.lst []) := by rw [upd_ne qit, upd_same]
  obtain ⟨z, its, k3, r3, hl3, e3⟩ := I4.lstM hq4
  cases r3
  refine wpAny_ite_split (fun _ => ?_) (fun _ => wpAny_pure ⟨plainId_quiet PySem.F.plain_extend_loop _, go _ I4⟩)
  refine wpAny_bind (wpAny_rule ?_)
  refine wpAny_bind ?_
  show wpAny _ _ (updateSeq q (·.push .none) >>= fun _ => updateSeq q (·.pop)) _ _ _
  refine wpAny_bind (wpAny_updateSeq e3 rfl ?_)
  have I5 := I4.lset (f := (·.push Value.none)) (its' := [Value.none]) (ys := [.non]) (t' := s4.toks) hq4 e3 (by simp) (.cons rfl .nil) (by rw [List.length_singleton, sizeLine_eq]; decide)
  obtain ⟨z4, its4, k4, r4, hl4, e4⟩ := I5.lstM upd_same
  obtain ⟨u4, rfl, ru4⟩ := r4.one
  refine wpAny_updateSeq e4 rfl ?_ (by show 1 ≤ sizeLine; rw [sizeLine_eq]; decide) (by show 0 ≤ sizeLine + 1; exact Nat.zero_le _)
  refine wpAny_pure ⟨plainId_quiet PySem.F.plain_extend_loop _, go _ ?_⟩
  have I6 := I5.lset (f := (·.pop)) (its := [u4]) (its' := []) (ys := []) (t' := s4.toks) upd_same e4 (by rfl) .nil (Nat.zero_le _)
  rw [upd_upd] at I6
  have hH : upd (upd (upd H q (.lst [])) it (ItX l it 0)) q (.lst []) = upd (upd H q (.lst [])) it (ItX l it 0) := by
    funext b
    by_cases hb : b = q
    · rw [hb, upd_same, upd_ne qit, upd_same]
    · rw [upd_ne hb]
  rw [hH] at I6
  exact I6
end
end My

/-! M -/
/-! terms: parts, pools, their words; plain Lean -/
namespace My
open PySem L2
theorem gN {i : Nat} {v : V} {σ : L2.St} {H : Hp} {Q : L2.St → Hp → Prop} (h : Q (σ.set i (some v)) H) : gName i v σ H Q := h
theorem seqT {t u : TS} {D : Ends} {σ : L2.St} {H : Hp} (h : t { D with nx := u D } σ H) : tSeq t u D σ H := h
theorem iteN {c A B : Prop} [Decidable c] (h : ¬ c) (b : B) : if c then A else B := by rw [if_neg h]; exact b
theorem iteP {c A B : Prop} [Decidable c] (h : c) (a : A) : if c then A else B := by rw [if_pos h]; exact a
theorem dT {p : Prop} [Decidable p] (h : p) : decide p = true := decide_eq_true h
theorem dF {p : Prop} [Decidable p] (h : ¬ p) : ¬ decide p = true := fun z => h (of_decide_eq_true z)
theorem ite2d {p A B : Prop} [Decidable p] (h1 : p → A) (h2 : ¬ p → B) : if decide p = true then A else B := by
  by_cases h : p
  · rw [if_pos (decide_eq_true h)]; exact h1 h
  · rw [if_neg (dF h)]; exact h2 h
theorem nT {b : Bool} (h : ¬ b = true) : (!b) = true := by cases b <;> simp_all
theorem nF {b : Bool} (h : b = true) : ¬ (!b) = true := by cases b <;> simp_all
theorem cpow1 {n : Int} (h0 : 0 ≤ n) (h : n ≤ 1000) : CPow 1 n := ⟨h0, by omega, by decide⟩
theorem cpow10 : CPow 10 18 := ⟨by decide, by decide, by decide⟩
theorem cdiv {i j : Int} (h0 : 0 < j) (h : j < 1073741824) : CDiv i j := ⟨h0, h⟩
theorem two_pos (n : Int) : (0 : Int) < 1 * 2 ^ n.toNat := by rw [Int.one_mul]; exact Int.pow_pos (by decide)
inductive Op | add | sub | and | or | xor | less | same deriving DecidableEq
def Op.s : Op → Str | .add => "add" | .sub => "sub" | .and => "and" | .or => "or" | .xor => "xor" | .less => "less" | .same => "same"
def opI (w : Nat) : Op → Int → Int → Int
  | .add, x, y => (x + y) % 2 ^ w
  | .sub, x, y => (x - y) % 2 ^ w
  | .and, x, y => Builtin.bitAnd x y
  | .or, x, y => Builtin.bitOr x y
  | .xor, x, y => Builtin.bitXor x y
  | .less, x, y => if x < y then 1 else 0
  | .same, x, y => if x = y then 1 else 0
theorem mask_eq (x : Int) (n : Nat) : Builtin.bitAnd x (1 * 2 ^ (n : Int).toNat - 1) = x % 2 ^ n := by
  rw [Int.one_mul, Int.toNat_natCast]; exact PySem.W.kbt_mask x n
inductive Part | num (v : Int) | get (i : Int) | op (o : Op) (a b : Nat) deriving DecidableEq
def Part.vals : Part → List V
  | .num v => [.str "num", .int v] | .get i => [.str "get", .int i] | .op o a b => [.str o.s, .int a, .int b]
def Part.key : Part → List Key
  | .num v => [.inr "num", .inl v] | .get i => [.inr "get", .inl i] | .op o a b => [.inr o.s, .inl a, .inl b]
theorem key_vals (p : Part) : p.key.map kV = p.vals := by cases p <;> rfl
theorem op_inj {o o' : Op} (h : o.s = o'.s) : o = o' := by
  cases o <;> cases o' <;> first | rfl | (exact absurd h (by decide +kernel))
theorem num_get : ¬ (("num" : Str) = "get") := by decide +kernel
theorem key_inj {p q : Part} (h : p.key = q.key) : p = q := by
  cases p <;> cases q <;> simp [Part.key] at h
  · exact congrArg _ h
  · exact absurd h.1 num_get
  · exact absurd h.1.symm num_get
  · exact congrArg _ h
  · obtain ⟨h1, h2, h3⟩ := h
    have h2 := Int.ofNat.inj h2
    have h3 := Int.ofNat.inj h3
    rw [op_inj h1, h2, h3]
theorem vals_inj {p q : Part} (h : p.vals = q.vals) : p = q := by
  cases p <;> cases q <;> simp [Part.vals] at h
  · exact congrArg _ h
  · exact absurd h.1 num_get
  · exact absurd h.1.symm num_get
  · exact congrArg _ h
  · obtain ⟨h1, h2, h3⟩ := h
    have h2 := Int.ofNat.inj h2
    have h3 := Int.ofNat.inj h3
    rw [op_inj h1, h2, h3]
/-- made or found -/
def mk (ps : List Part) (p : Part) : Nat × List Part := if p ∈ ps then (ps.idxOf p, ps) else (ps.length, ps ++ [p])
def numd (ps : List Part) : List (List Key × V) := ps.zipIdx.map fun x => (x.1.key, .int (x.2 : Nat))
theorem numd_snoc (ps : List Part) (p : Part) : numd (ps ++ [p]) = numd ps ++ [(p.key, .int (ps.length : Nat))] := by
  unfold numd
  rw [List.zipIdx_append, List.map_append]
  simp
theorem numd_len (ps : List Part) : (numd ps).length = ps.length := by unfold numd; simp
theorem valV_numd (p : Part) : ∀ ps : List Part, valV (numd ps) p.key = if p ∈ ps then some (.int (ps.idxOf p : Nat)) else none := by
  have gen : ∀ (ps : List Part) (k : Nat), valV ((ps.zipIdx k).map fun x => (x.1.key, V.int (x.2 : Nat))) p.key = if p ∈ ps then some (.int ((k + ps.idxOf p : Nat) : Int)) else none := by
    intro ps
    induction ps with
    | nil => intro k; rfl
    | cons q r ih =>
      intro k
      rw [List.zipIdx_cons, List.map_cons]
      by_cases e : q = p
      · subst e
        rw [valV_pos rfl, if_pos List.mem_cons_self, List.idxOf_cons_self]
        rfl
      · rw [valV_neg (fun z => e (key_inj z)), ih (k + 1)]
        by_cases m : p ∈ r
        · have ee : (q == p) = false := by simpa using e
          rw [if_pos m, if_pos (List.mem_cons_of_mem _ m), List.idxOf_cons, ee]
          simp only [Option.some.injEq, V.int.injEq, cond_false]
          omega
        · rw [if_neg m, if_neg (fun z => m ((List.mem_cons.mp z).resolve_left (fun y => e y.symm)))]
  intro ps
  have := gen ps 0
  simp only [Nat.zero_add] at this
  exact this
/-! ### what is shortened -/
inductive Sh | one | other | zero | unit | no deriving DecidableEq
def Sh.v : Sh → V | .one => .str "one" | .other => .str "other" | .zero => .str "zero" | .unit => .str "unit" | .no => .non
def shTwice : Op → Sh | .sub => .zero | .xor => .zero | .less => .zero | .or => .one | .same => .unit | _ => .no
def shAnd (fa fb : Option Int) (eq : Bool) (most : Int) : Sh :=
  if fa = some 0 ∨ fb = some 0 then .zero else if fa = some most then .other else if fb = some most ∨ eq = true then .one else .no
def shortR (o : Op) (fa fb : Option Int) (eq : Bool) (most : Int) : Sh :=
  if (o = .add ∨ o = .or ∨ o = .xor) ∧ fa = some 0 then .other
  else if (o = .add ∨ o = .or ∨ o = .xor) ∧ fb = some 0 then .one
  else if o = .and then shAnd fa fb eq most
  else if fb = some 0 ∧ o = .sub then .one
  else if fb = some 0 ∧ o = .less then .zero
  else if eq = true then shTwice o
  else .no
def optV : Option Int → V | some x => .int x | none => .non
theorem dec_opt (fa : Option Int) (z : Int) : decide (optV fa = .int z) = decide (fa = some z) := by
  cases fa with
  | none => simp [optV]
  | some x => simp [optV]
theorem scal_opt (fa : Option Int) (z : Int) : scal (optV fa) (.int z) = true := by cases fa <;> rfl
def either (o : Op) : Bool := match o with | .sub => false | .less => false | _ => true
def Part.word : Part → Option Int | .num v => some v | _ => none
def wordOf (ps : List Part) (a : Nat) : Option Int := (ps[a]?).bind Part.word
theorem wordOf_at {ps : List Part} {i : Nat} {p : Part} (h : ps[i]? = some p) : wordOf ps i = p.word := by unfold wordOf; rw [h]; rfl
def fin (ps : List Part) (o : Op) (a b : Nat) : Sh → Nat × List Part
  | .one => (a, ps) | .other => (b, ps) | .zero => mk ps (.num 0) | .unit => mk ps (.num 1) | .no => mk ps (.op o a b)
def mApply (w : Nat) (ps : List Part) (o : Op) (a b : Nat) : Nat × List Part :=
  match wordOf ps a, wordOf ps b with
  | some x, some y => mk ps (.num (opI w o x y))
  | fa, fb => if either o = true ∧ b < a then fin ps o b a (shortR o fb fa (decide (b = a)) (2 ^ w - 1)) else fin ps o a b (shortR o fa fb (decide (a = b)) (2 ^ w - 1))
/-! ### in the heap -/
def TupsAt (H : Hp) (ts : List Addr) (ps : List Part) : Prop := ts.length = ps.length ∧ ∀ (i : Nat) (p : Part), ps[i]? = some p → ∃ t : Addr, ts[i]? = some t ∧ H t = some (.tup p.vals)
/-- a list of parts at l -/
def LAt (H : Hp) (l : Addr) (ps : List Part) : Prop := ∃ ts, H l = some (.lst (ts.map V.ref)) ∧ TupsAt H ts ps
theorem LAt.item {H : Hp} {l : Addr} {ps : List Part} (h : LAt H l ps) : ∃ xs : List V, H l = some (.lst xs) ∧ xs.length = ps.length ∧ ∀ (i : Nat) (p : Part), ps[i]? = some p → ∃ t : Addr, xs[i]? = some (V.ref t) ∧ H t = some (.tup p.vals) := by
  obtain ⟨ts, h1, h2, h3⟩ := h
  refine ⟨_, h1, by rw [List.length_map, h2], fun i p e => ?_⟩
  obtain ⟨t, e1, e2⟩ := h3 i p e
  exact ⟨t, by rw [List.getElem?_map, e1]; rfl, e2⟩
/-- what stands stays, but for what S says -/
def Keep (S : Addr → Prop) (H H' : Hp) : Prop := ∀ b o, H b = some o → ¬ S b → H' b = some o
theorem LAt.keep {S : Addr → Prop} {H H' : Hp} {l : Addr} {ps : List Part} (h : LAt H l ps) (k : Keep S H H') (hl : ¬ S l) (ht : ∀ t xs, H t = some (.tup xs) → ¬ S t) : LAt H' l ps := by
  obtain ⟨ts, h1, h2, h3⟩ := h
  refine ⟨ts, k _ _ h1 hl, h2, fun i p e => ?_⟩
  obtain ⟨t, e1, e2⟩ := h3 i p e
  exact ⟨t, e1, k _ _ e2 (ht _ _ e2)⟩
theorem LAt.push {H H' : Hp} {l t : Addr} {ps : List Part} {p : Part} {xs : List V} (h : LAt H l ps) (hx : H l = some (.lst xs)) (k : ∀ b ys, H b = some (.tup ys) → H' b = some (.tup ys)) (e : H' l = some (.lst (xs ++ [.ref t]))) (et : H' t = some (.tup p.vals)) : LAt H' l (ps ++ [p]) := by
  obtain ⟨ts, h1, h2, h3⟩ := h
  rw [h1] at hx
  cases hx
  refine ⟨ts ++ [t], by rw [e, List.map_append]; rfl, by rw [List.length_append, List.length_append, h2]; rfl, fun i q hq => ?_⟩
  by_cases hi : i < ps.length
  · rw [List.getElem?_append_left hi] at hq
    obtain ⟨u, e1, e2⟩ := h3 i q hq
    refine ⟨u, by rw [List.getElem?_append_left (by omega)]; exact e1, k _ _ e2⟩
  · have hl := (List.getElem?_eq_some_iff.mp hq).1
    rw [List.length_append, List.length_singleton] at hl
    have ei : i = ps.length := by omega
    subst ei
    rw [List.getElem?_append_right (Nat.le_refl _), Nat.sub_self] at hq
    cases hq
    exact ⟨t, by rw [← h2, List.getElem?_append_right (Nat.le_refl _), Nat.sub_self]; rfl, et⟩
def poolF (w : Nat) (l d : Addr) : List (Str × V) := [("width", .int w), ("_most", .int (2 ^ w - 1)), ("_parts", .ref l), ("_numbers", .ref d)]
structure PoolAt (C : Addr) (H : Hp) (a l d : Addr) (w : Nat) (ps : List Part) : Prop where
  ob : ∃ dx, H a = some (.ins C dx (poolF w l d))
  lst : LAt H l ps
  dic : H d = some (.dT (numd ps))
theorem ld_ne {H : Hp} {l d : Addr} {xs : List V} {kvs : List (List Key × V)} (h1 : H l = some (.lst xs)) (h2 : H d = some (.dT kvs)) : l ≠ d := ne_of h1 h2 (by intro z; cases z)
theorem PoolAt.keep {S : Addr → Prop} {C : Addr} {H H' : Hp} {a l d : Addr} {w : Nat} {ps : List Part} (h : PoolAt C H a l d w ps) (k : Keep S H H') (ha : ¬ S a) (hl : ¬ S l) (hd : ¬ S d) (ht : ∀ t xs, H t = some (.tup xs) → ¬ S t) : PoolAt C H' a l d w ps :=
  ⟨by obtain ⟨dx, e⟩ := h.ob; exact ⟨dx, k _ _ e ha⟩, h.lst.keep k hl ht, k _ _ h.dic hd⟩
theorem lk {f g : Str} {y : V} {fs : List (Str × V)} : ((f, y) :: fs).lookup g = if g = f then some y else fs.lookup g := by
  by_cases h : g = f
  · subst h; simp [List.lookup]
  · have e : (g == f) = false := by simpa using h
    rw [if_neg h]; simp [List.lookup, e]
theorem look_width (w : Nat) (l d : Addr) : (poolF w l d).lookup ("width" : Str) = some (V.int w) := by unfold poolF; rw [lk, if_pos rfl]
theorem look_most (w : Nat) (l d : Addr) : (poolF w l d).lookup ("_most" : Str) = some (V.int (2 ^ w - 1)) := by unfold poolF; rw [lk, if_neg (by decide +kernel), lk, if_pos rfl]
theorem look_parts (w : Nat) (l d : Addr) : (poolF w l d).lookup ("_parts" : Str) = some (V.ref l) := by unfold poolF; rw [lk, if_neg (by decide +kernel), lk, if_neg (by decide +kernel), lk, if_pos rfl]
theorem look_numbers (w : Nat) (l d : Addr) : (poolF w l d).lookup ("_numbers" : Str) = some (V.ref d) := by unfold poolF; rw [lk, if_neg (by decide +kernel), lk, if_neg (by decide +kernel), lk, if_neg (by decide +kernel), lk, if_pos rfl]
theorem look_no (w : Nat) (l d : Addr) {m : Str} (h1 : ¬ m = "width") (h2 : ¬ m = "_most") (h3 : ¬ m = "_parts") (h4 : ¬ m = "_numbers") : (poolF w l d).lookup m = none := by
  unfold poolF; rw [lk, if_neg h1, lk, if_neg h2, lk, if_neg h3, lk, if_neg h4]; rfl
theorem poolF_made (w : Nat) (l d : Addr) : putF "_numbers" (.ref d) (putF "_parts" (.ref l) (putF "_most" (.int (2 ^ w - 1)) (putF "width" (.int w) []))) = poolF w l d := by
  have e1 : ¬ (("width" : Str) = "_most") := by decide +kernel
  have e2 : ¬ (("width" : Str) = "_parts") := by decide +kernel
  have e3 : ¬ (("_most" : Str) = "_parts") := by decide +kernel
  have e4 : ¬ (("width" : Str) = "_numbers") := by decide +kernel
  have e5 : ¬ (("_most" : Str) = "_numbers") := by decide +kernel
  have e6 : ¬ (("_parts" : Str) = "_numbers") := by decide +kernel
  simp only [putF, if_neg e1, if_neg e2, if_neg e3, if_neg e4, if_neg e5, if_neg e6]
  rfl
end My

/-! R -/
/-! what a part is made of -/
namespace My
open PySem L2
inductive Reach (ps : List Part) (n : Nat) : Nat → Prop
  | self : Reach ps n n
  | left {k : Nat} {o : Op} {a b : Nat} : Reach ps n k → ps[k]? = some (Part.op o a b) → Reach ps n a
  | right {k : Nat} {o : Op} {a b : Nat} : Reach ps n k → ps[k]? = some (Part.op o a b) → Reach ps n b
/-- operands stand ahead -/
def WF (ps : List Part) : Prop := ∀ (k : Nat) (o : Op) (a b : Nat), ps[k]? = some (Part.op o a b) → a < k ∧ b < k
theorem Reach.le {ps : List Part} {n k : Nat} (w : WF ps) (h : Reach ps n k) : k ≤ n := by
  induction h with
  | self => exact Nat.le_refl _
  | left _ e ih => have := w _ _ _ _ e; omega
  | right _ e ih => have := w _ _ _ _ e; omega
structure ReachL (ps : List Part) (n : Nat) (ks : List Nat) : Prop where
  asc : ks.Pairwise (· < ·)
  mem : ∀ k, k ∈ ks ↔ Reach ps n k
theorem asc_ext : ∀ {xs ys : List Nat}, xs.Pairwise (· < ·) → ys.Pairwise (· < ·) → (∀ k, k ∈ xs ↔ k ∈ ys) → xs = ys
  | [], [], _, _, _ => rfl
  | [], y :: ys, _, _, h => absurd ((h y).mpr List.mem_cons_self) (by simp)
  | x :: xs, [], _, _, h => absurd ((h x).mp List.mem_cons_self) (by simp)
  | x :: xs, y :: ys, hx, hy, h => by
    obtain ⟨hx1, hx2⟩ := List.pairwise_cons.mp hx
    obtain ⟨hy1, hy2⟩ := List.pairwise_cons.mp hy
    have e : x = y := by
      rcases List.mem_cons.mp ((h x).mp List.mem_cons_self) with e | e
      · exact e
      · rcases List.mem_cons.mp ((h y).mpr List.mem_cons_self) with e' | e'
        · exact e'.symm
        · have := hy1 _ e; have := hx1 _ e'; omega
    subst e
    rw [asc_ext hx2 hy2 fun k => ⟨fun m => ?_, fun m => ?_⟩]
    · rcases List.mem_cons.mp ((h k).mp (List.mem_cons_of_mem _ m)) with e | e
      · have := hx1 _ m; omega
      · exact e
    · rcases List.mem_cons.mp ((h k).mpr (List.mem_cons_of_mem _ m)) with e | e
      · have := hy1 _ m; omega
      · exact e
theorem ReachL.uniq {ps : List Part} {n : Nat} {ks ls : List Nat} (h : ReachL ps n ks) (h' : ReachL ps n ls) : ks = ls :=
  asc_ext h.asc h'.asc fun k => (h.mem k).trans (h'.mem k).symm
/-- the dict of what is found -/
def dk (F : List Nat) : List (Key × V) := F.map fun (k : Nat) => (Sum.inl ((k : Nat) : Int), V.bl true)
theorem valV_dk (k : Nat) : ∀ F : List Nat, valV (dk F) (Sum.inl (k : Int)) = if k ∈ F then some (.bl true) else none
  | [] => rfl
  | j :: F => by
    have ih := valV_dk k F
    unfold dk at ih ⊢
    rw [List.map_cons]
    by_cases e : j = k
    · subst e
      rw [valV_pos rfl, if_pos List.mem_cons_self]
    · rw [valV_neg (fun z => e (by have := Sum.inl.inj z; exact Int.ofNat.inj this)), ih]
      by_cases m : k ∈ F
      · rw [if_pos m, if_pos (List.mem_cons_of_mem _ m)]
      · rw [if_neg m, if_neg (fun z => m ((List.mem_cons.mp z).resolve_left (fun y => e y.symm)))]
theorem dk_len (F : List Nat) : (dk F).length = F.length := by unfold dk; simp
theorem dk_put {F : List Nat} {k : Nat} (h : k ∉ F) : putK (dk F) (Sum.inl (k : Int)) (.bl true) = dk (F ++ [k]) := by
  rw [putK_new _ (by rw [valV_dk, if_neg h])]; unfold dk; simp
theorem dk_keys (F : List Nat) : (dk F).map (·.1) = (F.map fun (k : Nat) => ((k : Nat) : Int)).map Sum.inl := by unfold dk; simp
/-- found and waiting -/
structure FW (ps : List Part) (n : Nat) (F W : List Nat) : Prop where
  nd : F.Nodup
  sub : ∀ k ∈ W, k ∈ F
  rch : ∀ k ∈ F, Reach ps n k
  n_in : n ∈ F
  clo : ∀ k ∈ F, k ∉ W → ∀ (o : Op) (a b : Nat), ps[k]? = some (Part.op o a b) → a ∈ F ∧ b ∈ F
def addN (s : List Nat × List Nat) (k : Nat) : List Nat × List Nat := if k ∈ s.1 then s else (s.1 ++ [k], s.2 ++ [k])
theorem addN_in {s : List Nat × List Nat} {k : Nat} (h : k ∈ s.1) : addN s k = s := if_pos h
theorem addN_new {s : List Nat × List Nat} {k : Nat} (h : k ∉ s.1) : addN s k = (s.1 ++ [k], s.2 ++ [k]) := if_neg h
theorem nodup_lt : ∀ {n : Nat} {F : List Nat}, F.Nodup → (∀ k ∈ F, k < n) → F.length ≤ n
  | 0, F, _, hk => by
    cases F with
    | nil => exact Nat.le_refl _
    | cons x r => exact absurd (hk x List.mem_cons_self) (Nat.not_lt_zero _)
  | n + 1, F, h, hk => by
    have ih := nodup_lt (n := n) (F := F.erase n) (h.erase n) fun k m => by
      have := (h.mem_erase_iff).mp m
      have := hk k this.2
      omega
    rw [List.length_erase] at ih
    split at ih <;> omega
end My
namespace My
open PySem L2
def adds (s : List Nat × List Nat) (l : List Nat) : List Nat × List Nat := l.foldl addN s
theorem adds_two {s : List Nat × List Nat} (x y : Nat) (i : Nat) (v : Nat) (h : [x, y][i]? = some v) : adds s ([x, y].take (i + 1)) = addN (adds s ([x, y].take i)) v := by
  match i, h with
  | 0, h => cases h; rfl
  | 1, h => cases h; rfl
  | i + 2, h => simp at h
theorem addN_mono {s : List Nat × List Nat} {k j : Nat} (h : j ∈ s.1) : j ∈ (addN s k).1 := by
  unfold addN; split
  · exact h
  · exact List.mem_append_left _ h
theorem addN_self {s : List Nat × List Nat} {k : Nat} : k ∈ (addN s k).1 := by
  unfold addN; split
  · assumption
  · simp
/-- one turn -/
structure Mid (ps : List Part) (n : Nat) (s : List Nat × List Nat) (j : Nat) : Prop where
  nd : s.1.Nodup
  sub : ∀ k ∈ s.2, k ∈ s.1
  rch : ∀ k ∈ s.1, Reach ps n k
  n_in : n ∈ s.1
  clo : ∀ k ∈ s.1, k ∉ s.2 → k ≠ j → ∀ (o : Op) (a b : Nat), ps[k]? = some (Part.op o a b) → a ∈ s.1 ∧ b ∈ s.1
theorem Mid.add {ps : List Part} {n : Nat} {s : List Nat × List Nat} {j k : Nat} (m : Mid ps n s j) (r : Reach ps n k) : Mid ps n (addN s k) j := by
  by_cases h : k ∈ s.1
  · rw [addN_in h]; exact m
  · rw [addN_new h]
    refine ⟨?_, fun z hz => ?_, fun z hz => ?_, List.mem_append_left _ m.n_in, fun z hz hn hj o a b e => ?_⟩
    · exact List.nodup_append.mpr ⟨m.nd, by simp, by intro a ha b hb; simp at hb; subst hb; exact fun e => h (e ▸ ha)⟩
    · rcases List.mem_append.mp hz with hz | hz
      · exact List.mem_append_left _ (m.sub z hz)
      · exact List.mem_append_right _ hz
    · rcases List.mem_append.mp hz with hz | hz
      · exact m.rch z hz
      · simp at hz; subst hz; exact r
    · rcases List.mem_append.mp hz with hz | hz
      · have := m.clo z hz (fun q => hn (List.mem_append_left _ q)) hj o a b e
        exact ⟨List.mem_append_left _ this.1, List.mem_append_left _ this.2⟩
      · exact absurd (List.mem_append_right _ hz) hn
theorem FW.mid {ps : List Part} {n : Nat} {F W : List Nat} {j : Nat} (f : FW ps n F (W ++ [j])) : Mid ps n (F, W) j :=
  ⟨f.nd, fun k m => f.sub k (List.mem_append_left _ m), f.rch, f.n_in, fun k hk hn hj o a b e => f.clo k hk (by simp [hn, hj]) o a b e⟩
theorem Mid.fw {ps : List Part} {n : Nat} {s : List Nat × List Nat} {j : Nat} (m : Mid ps n s j) (h : ∀ (o : Op) (a b : Nat), ps[j]? = some (Part.op o a b) → a ∈ s.1 ∧ b ∈ s.1) : FW ps n s.1 s.2 :=
  ⟨m.nd, m.sub, m.rch, m.n_in, fun k hk hn o a b e => by
    by_cases hj : k = j
    · subst hj; exact h o a b e
    · exact m.clo k hk hn hj o a b e⟩
/-- the measure of one step -/
theorem addN_meas (N : Nat) (s : List Nat × List Nat) (k : Nat) (h : (addN s k).1.length ≤ N) : 2 * (N - (addN s k).1.length) + (addN s k).2.length ≤ 2 * (N - s.1.length) + s.2.length := by
  unfold addN at h ⊢
  split
  · exact Nat.le_refl _
  · rename_i hk
    rw [if_neg hk] at h
    simp at h ⊢
    omega
end My

/-! R2 -/
namespace My
open PySem L2
/-! ### made or found -/
theorem mk_at (ps : List Part) (p : Part) : (mk ps p).2[(mk ps p).1]? = some p := by
  unfold mk; split
  · rename_i h
    have := List.idxOf_lt_length_iff.mpr h
    rw [List.getElem?_eq_getElem this, List.getElem_idxOf]
  · rw [List.getElem?_append_right (Nat.le_refl _), Nat.sub_self]; rfl
theorem mk_lt (ps : List Part) (p : Part) : (mk ps p).1 < (mk ps p).2.length := (List.getElem?_eq_some_iff.mp (mk_at ps p)).1
theorem mk_pre (ps : List Part) (p : Part) : ps <+: (mk ps p).2 := by unfold mk; split; exact List.prefix_refl _; exact List.prefix_append _ _
theorem mk_len (ps : List Part) (p : Part) : (mk ps p).2.length ≤ ps.length + 1 := by unfold mk; split <;> simp
theorem fin_lt {ps : List Part} {o : Op} {a b : Nat} (ha : a < ps.length) (hb : b < ps.length) (s : Sh) : (fin ps o a b s).1 < (fin ps o a b s).2.length := by
  cases s <;> first | exact ha | exact hb | exact mk_lt _ _
theorem fin_pre (ps : List Part) (o : Op) (a b : Nat) (s : Sh) : ps <+: (fin ps o a b s).2 := by cases s <;> first | exact List.prefix_refl _ | exact mk_pre _ _
theorem fin_len (ps : List Part) (o : Op) (a b : Nat) (s : Sh) : (fin ps o a b s).2.length ≤ ps.length + 1 := by cases s <;> first | exact Nat.le_succ _ | exact mk_len _ _
theorem mApply_lt {w : Nat} {ps : List Part} {o : Op} {a b : Nat} (ha : a < ps.length) (hb : b < ps.length) : (mApply w ps o a b).1 < (mApply w ps o a b).2.length := by
  unfold mApply; split
  · exact mk_lt _ _
  · split
    · exact fin_lt hb ha _
    · exact fin_lt ha hb _
theorem mApply_pre (w : Nat) (ps : List Part) (o : Op) (a b : Nat) : ps <+: (mApply w ps o a b).2 := by
  unfold mApply; split
  · exact mk_pre _ _
  · split <;> exact fin_pre _ _ _ _ _
theorem mApply_len (w : Nat) (ps : List Part) (o : Op) (a b : Nat) : (mApply w ps o a b).2.length ≤ ps.length + 1 := by
  unfold mApply; split
  · exact mk_len _ _
  · split <;> exact fin_len _ _ _ _ _
/-! ### well made pools -/
def GetOk (ps : List Part) : Prop := ∀ (k : Nat) (i : Int), ps[k]? = some (Part.get i) → 0 ≤ i ∧ i ≤ 63
def NumOk (w : Nat) (ps : List Part) : Prop := ∀ (k : Nat) (v : Int), ps[k]? = some (Part.num v) → 0 ≤ v ∧ v < 2 ^ w
def Ahead (n : Nat) : Part → Prop | .op _ a b => a < n ∧ b < n | _ => True
def PartOk (w : Nat) : Part → Prop | .num v => 0 ≤ v ∧ v < 2 ^ w | .get i => 0 ≤ i ∧ i ≤ 63 | .op _ _ _ => True
structure Ok (w : Nat) (ps : List Part) : Prop where
  wf : WF ps
  get : GetOk ps
  num : NumOk w ps
theorem ok_nil (w : Nat) : Ok w [] := ⟨fun _ _ _ _ e => by simp at e, fun _ _ e => by simp at e, fun _ _ e => by simp at e⟩
theorem ok_snoc {w : Nat} {ps : List Part} {p : Part} (h : Ok w ps) (ha : Ahead ps.length p) (hp : PartOk w p) : Ok w (ps ++ [p]) := by
  have at_ : ∀ {k : Nat} {q : Part}, (ps ++ [p])[k]? = some q → ps[k]? = some q ∨ (k = ps.length ∧ q = p) := by
    intro k q e
    by_cases hk : k < ps.length
    · rw [List.getElem?_append_left hk] at e; exact .inl e
    · have hl := (List.getElem?_eq_some_iff.mp e).1
      rw [List.length_append, List.length_singleton] at hl
      have ek : k = ps.length := by omega
      subst ek
      rw [List.getElem?_append_right (Nat.le_refl _), Nat.sub_self] at e
      cases e
      exact .inr ⟨rfl, rfl⟩
  refine ⟨fun k o a b e => ?_, fun k i e => ?_, fun k v e => ?_⟩
  · rcases at_ e with e | ⟨rfl, rfl⟩
    · exact h.wf _ _ _ _ e
    · exact ha
  · rcases at_ e with e | ⟨rfl, rfl⟩
    · exact h.get _ _ e
    · exact hp
  · rcases at_ e with e | ⟨rfl, rfl⟩
    · exact h.num _ _ e
    · exact hp
theorem ok_mk {w : Nat} {ps : List Part} {p : Part} (h : Ok w ps) (ha : Ahead ps.length p) (hp : PartOk w p) : Ok w (mk ps p).2 := by
  unfold mk; split
  · exact h
  · exact ok_snoc h ha hp
theorem pow_pos' (w : Nat) : (0 : Int) < 2 ^ w := Int.pow_pos (by decide)
theorem one_lt {w : Nat} (h : 1 ≤ w) : (1 : Int) < 2 ^ w := by
  obtain ⟨k, rfl⟩ : ∃ k, w = k + 1 := ⟨w - 1, by omega⟩
  have := pow_pos' k
  rw [Int.pow_succ]; omega
theorem and_range {w : Nat} {x y : Int} (hx : 0 ≤ x) (hy : 0 ≤ y) (hxw : x < 2 ^ w) (hyw : y < 2 ^ w) : 0 ≤ Builtin.bitAnd x y ∧ Builtin.bitAnd x y < 2 ^ w := by
  obtain ⟨a, rfl⟩ := Int.eq_ofNat_of_zero_le hx
  obtain ⟨b, rfl⟩ := Int.eq_ofNat_of_zero_le hy
  have e : Builtin.bitAnd (a : Int) (b : Int) = ((a &&& b : Nat) : Int) := by simp [Builtin.bitAnd]
  rw [e]
  refine ⟨by omega, ?_⟩
  have h2 : a < 2 ^ w := by exact_mod_cast hxw
  have := Nat.and_lt_two_pow (n := w) b (by exact_mod_cast hyw) |> fun _ => Nat.lt_of_le_of_lt (Nat.and_le_left (n := a) (m := b)) h2
  exact_mod_cast this
theorem or_range {w : Nat} {x y : Int} (hx : 0 ≤ x) (hy : 0 ≤ y) (hxw : x < 2 ^ w) (hyw : y < 2 ^ w) : 0 ≤ Builtin.bitOr x y ∧ Builtin.bitOr x y < 2 ^ w := by
  obtain ⟨a, rfl⟩ := Int.eq_ofNat_of_zero_le hx
  obtain ⟨b, rfl⟩ := Int.eq_ofNat_of_zero_le hy
  have e : Builtin.bitOr (a : Int) (b : Int) = ((a ||| b : Nat) : Int) := by rw [Bits.bitOr_pp (by omega) (by omega), Int.toNat_natCast, Int.toNat_natCast]
  rw [e]
  refine ⟨by omega, ?_⟩
  have := Nat.or_lt_two_pow (x := a) (y := b) (n := w) (by exact_mod_cast hxw) (by exact_mod_cast hyw)
  exact_mod_cast this
theorem xor_range {w : Nat} {x y : Int} (hx : 0 ≤ x) (hy : 0 ≤ y) (hxw : x < 2 ^ w) (hyw : y < 2 ^ w) : 0 ≤ Builtin.bitXor x y ∧ Builtin.bitXor x y < 2 ^ w := by
  obtain ⟨a, rfl⟩ := Int.eq_ofNat_of_zero_le hx
  obtain ⟨b, rfl⟩ := Int.eq_ofNat_of_zero_le hy
  have e : Builtin.bitXor (a : Int) (b : Int) = ((a ^^^ b : Nat) : Int) := by rw [Bits.bitXor_pp (by omega) (by omega), Int.toNat_natCast, Int.toNat_natCast]
  rw [e]
  refine ⟨by omega, ?_⟩
  have := Nat.xor_lt_two_pow (x := a) (y := b) (n := w) (by exact_mod_cast hxw) (by exact_mod_cast hyw)
  exact_mod_cast this
theorem opI_range {w : Nat} (h1 : 1 ≤ w) {o : Op} {x y : Int} (hx : 0 ≤ x ∧ x < 2 ^ w) (hy : 0 ≤ y ∧ y < 2 ^ w) : 0 ≤ opI w o x y ∧ opI w o x y < 2 ^ w := by
  have p := pow_pos' w
  have q := one_lt h1
  cases o <;> simp only [opI]
  · exact ⟨Int.emod_nonneg _ (by omega), Int.emod_lt_of_pos _ p⟩
  · exact ⟨Int.emod_nonneg _ (by omega), Int.emod_lt_of_pos _ p⟩
  · exact and_range hx.1 hy.1 hx.2 hy.2
  · exact or_range hx.1 hy.1 hx.2 hy.2
  · exact xor_range hx.1 hy.1 hx.2 hy.2
  · split <;> omega
  · split <;> omega
theorem word_ok {w : Nat} {ps : List Part} (h : Ok w ps) {a : Nat} {x : Int} (e : wordOf ps a = some x) : 0 ≤ x ∧ x < 2 ^ w := by
  unfold wordOf at e
  cases q : ps[a]? with
  | none => rw [q] at e; cases e
  | some p =>
    rw [q] at e
    cases p with
    | num v => cases e; exact h.num _ _ q
    | get i => cases e
    | op o a b => cases e
theorem ok_fin {w : Nat} (h1 : 1 ≤ w) {ps : List Part} (h : Ok w ps) {o : Op} {a b : Nat} (ha : a < ps.length) (hb : b < ps.length) (s : Sh) : Ok w (fin ps o a b s).2 := by
  cases s
  · exact h
  · exact h
  · exact ok_mk h trivial ⟨Int.le_refl _, pow_pos' w⟩
  · exact ok_mk h trivial ⟨by decide, one_lt h1⟩
  · exact ok_mk h ⟨ha, hb⟩ trivial
theorem ok_mApply {w : Nat} (h1 : 1 ≤ w) {ps : List Part} (h : Ok w ps) {o : Op} {a b : Nat} (ha : a < ps.length) (hb : b < ps.length) : Ok w (mApply w ps o a b).2 := by
  unfold mApply; split
  · rename_i x y ea eb
    exact ok_mk h trivial (opI_range h1 (word_ok h ea) (word_ok h eb))
  · split
    · exact ok_fin h1 h hb ha _
    · exact ok_fin h1 h ha hb _
end My

/-! R3 -/
namespace My
open PySem L2
/-! ### words of parts -/
def evV (w : Nat) (env : Int → Int) (acc : List Int) : Part → Int | .num v => v | .get i => env i | .op o a b => opI w o (acc.getD a 0) (acc.getD b 0)
def evStep (w : Nat) (env : Int → Int) (acc : List Int) (p : Part) : List Int := acc ++ [evV w env acc p]
def evs (w : Nat) (env : Int → Int) (ps : List Part) : List Int := ps.foldl (evStep w env) []
def evAt (w : Nat) (env : Int → Int) (ps : List Part) (k : Nat) : Int := (evs w env ps).getD k 0
theorem evs_snoc (w : Nat) (env : Int → Int) (ps : List Part) (p : Part) : evs w env (ps ++ [p]) = evs w env ps ++ [evV w env (evs w env ps) p] := by
  unfold evs; rw [List.foldl_append]; rfl
theorem snoc_ind {α : Type} {C : List α → Prop} (h0 : C []) (hs : ∀ l x, C l → C (l ++ [x])) : ∀ l, C l := by
  have : ∀ n (l : List α), l.length = n → C l := by
    intro n
    induction n with
    | zero => intro l h; rw [List.length_eq_zero_iff] at h; subst h; exact h0
    | succ n ih =>
      intro l h
      rcases List.eq_nil_or_concat l with rfl | ⟨l', x, rfl⟩
      · cases h
      · rw [List.concat_eq_append] at h ⊢
        rw [List.length_append, List.length_singleton] at h
        exact hs l' x (ih l' (by omega))
  intro l; exact this _ l rfl
theorem evs_len (w : Nat) (env : Int → Int) (ps : List Part) : (evs w env ps).length = ps.length := by
  refine snoc_ind (C := fun ps => (evs w env ps).length = ps.length) rfl (fun l x h => ?_) ps
  rw [evs_snoc, List.length_append, List.length_append, h]; rfl
theorem evs_app (w : Nat) (env : Int → Int) (ps : List Part) : ∀ qs : List Part, ∃ r, evs w env (ps ++ qs) = evs w env ps ++ r := by
  refine snoc_ind ⟨[], by simp⟩ (fun l x h => ?_)
  obtain ⟨r, h⟩ := h
  exact ⟨r ++ [evV w env (evs w env (ps ++ l)) x], by rw [← List.append_assoc, evs_snoc, h, List.append_assoc]⟩
theorem evAt_pre {w : Nat} {env : Int → Int} {ps qs : List Part} (h : ps <+: qs) {k : Nat} (hk : k < ps.length) : evAt w env qs k = evAt w env ps k := by
  obtain ⟨t, rfl⟩ := h
  obtain ⟨r, e⟩ := evs_app w env ps t
  unfold evAt
  rw [e, List.getD_eq_getElem?_getD, List.getD_eq_getElem?_getD, List.getElem?_append_left (by rw [evs_len]; exact hk)]
theorem evAt_eq {w : Nat} {env : Int → Int} {ps : List Part} (wf : WF ps) {k : Nat} {p : Part} (hp : ps[k]? = some p) :
    evAt w env ps k = match p with | .num v => v | .get i => env i | .op o a b => opI w o (evAt w env ps a) (evAt w env ps b) := by
  have hk := (List.getElem?_eq_some_iff.mp hp).1
  have e1 : ps = ps.take (k + 1) ++ ps.drop (k + 1) := (List.take_append_drop _ _).symm
  have et : ps.take (k + 1) = ps.take k ++ [p] := by rw [List.take_add_one, hp]; rfl
  have pre : ps.take k ++ [p] <+: ps := ⟨ps.drop (k + 1), by rw [← et]; exact List.take_append_drop _ _⟩
  have pre0 : ps.take k <+: ps := List.take_prefix _ _
  have hl : (ps.take k).length = k := by rw [List.length_take]; omega
  rw [evAt_pre pre (by rw [List.length_append, hl]; simp)]
  unfold evAt
  rw [evs_snoc, List.getD_eq_getElem?_getD, List.getElem?_append_right (by rw [evs_len, hl]; exact Nat.le_refl _), evs_len, hl, Nat.sub_self]
  cases p with
  | num v => rfl
  | get i => rfl
  | op o a b =>
    have hab := wf _ _ _ _ hp
    show opI w o (evAt w env (ps.take k) a) (evAt w env (ps.take k) b) = opI w o (evAt w env ps a) (evAt w env ps b)
    rw [evAt_pre pre0 (by omega), evAt_pre pre0 (by omega)]
/-! ### a term made again in another pool -/
def look (m : List (Nat × Nat)) (k : Nat) : Nat := ((m.find? fun x => decide (x.1 = k)).map (·.2)).getD 0
def dm (m : List (Nat × Nat)) : List (Key × V) := m.map fun (x : Nat × Nat) => (Sum.inl ((x.1 : Nat) : Int), V.int ((x.2 : Nat) : Int))
theorem dm_len (m : List (Nat × Nat)) : (dm m).length = m.length := by unfold dm; simp
theorem valV_dm (k : Nat) : ∀ m : List (Nat × Nat), valV (dm m) (Sum.inl (k : Int)) = if k ∈ m.map (·.1) then some (.int ((look m k : Nat) : Int)) else none
  | [] => rfl
  | x :: m => by
    have ih := valV_dm k m
    unfold dm at ih ⊢
    rw [List.map_cons, List.map_cons]
    by_cases e : x.1 = k
    · rw [valV_pos (by show Sum.inl ((x.1 : Nat) : Int) = Sum.inl (k : Int); rw [e]), if_pos (by rw [e]; exact List.mem_cons_self)]
      unfold look; rw [List.find?_cons, decide_eq_true e]; rfl
    · rw [valV_neg (fun z => e (by have := Sum.inl.inj z; exact Int.ofNat.inj this)), ih]
      have el : look (x :: m) k = look m k := by unfold look; rw [List.find?_cons, decide_eq_false e]
      rw [el]
      by_cases h : k ∈ m.map (·.1)
      · rw [if_pos h, if_pos (List.mem_cons_of_mem _ h)]
      · rw [if_neg h, if_neg (fun z => h ((List.mem_cons.mp z).resolve_left (fun y => e y.symm)))]
theorem dm_put {m : List (Nat × Nat)} {k v : Nat} (h : k ∉ m.map (·.1)) : putK (dm m) (Sum.inl (k : Int)) (.int (v : Int)) = dm (m ++ [(k, v)]) := by
  rw [putK_new _ (by rw [valV_dm, if_neg h])]; unfold dm; simp
theorem look_mem {m : List (Nat × Nat)} {k : Nat} (h : k ∈ m.map (·.1)) : (k, look m k) ∈ m := by
  induction m with
  | nil => simp at h
  | cons x m ih =>
    by_cases e : x.1 = k
    · have : look (x :: m) k = x.2 := by unfold look; rw [List.find?_cons, decide_eq_true e]; rfl
      rw [this, ← e]; exact List.mem_cons_self
    · have el : look (x :: m) k = look m k := by unfold look; rw [List.find?_cons, decide_eq_false e]
      rw [el]
      exact List.mem_cons_of_mem _ (ih ((List.mem_cons.mp h).resolve_left (fun y => e y.symm)))
theorem look_snoc_old {m : List (Nat × Nat)} {k : Nat} (x : Nat × Nat) (h : k ∈ m.map (·.1)) : look (m ++ [x]) k = look m k := by
  induction m with
  | nil => simp at h
  | cons y m ih =>
    by_cases e : y.1 = k
    · unfold look; rw [List.cons_append, List.find?_cons, List.find?_cons, decide_eq_true e]
    · have := ih ((List.mem_cons.mp h).resolve_left (fun z => e z.symm))
      unfold look at this ⊢; rw [List.cons_append, List.find?_cons, List.find?_cons, decide_eq_false e]; exact this
theorem look_snoc_new {m : List (Nat × Nat)} {k v : Nat} (h : k ∉ m.map (·.1)) : look (m ++ [(k, v)]) k = v := by
  induction m with
  | nil => unfold look; simp
  | cons y m ih =>
    have e : ¬ y.1 = k := fun e => h (by rw [← e]; exact List.mem_cons_self)
    have := ih (fun z => h (List.mem_cons_of_mem _ z))
    unfold look at this ⊢; rw [List.cons_append, List.find?_cons, decide_eq_false e]; exact this
def cstepR (w2 : Nat) (ps : List Part) (st : List Part × List (Nat × Nat)) (k : Nat) : Nat × List Part := match ps[k]? with
  | some (.op o a b) => mApply w2 st.1 o (look st.2 a) (look st.2 b)
  | some (.get i) => mk st.1 (.get i)
  | some (.num v) => mk st.1 (.num (v % 2 ^ w2))
  | none => (0, st.1)
def cstep (w2 : Nat) (ps : List Part) (st : List Part × List (Nat × Nat)) (k : Nat) : List Part × List (Nat × Nat) := ((cstepR w2 ps st k).2, st.2 ++ [(k, (cstepR w2 ps st k).1)])
def mCarry (w2 : Nat) (ps : List Part) (ks : List Nat) (qs : List Part) : List Part × List (Nat × Nat) := ks.foldl (cstep w2 ps) (qs, [])
/-- what holds behind the numbers done -/
structure CInv (w2 : Nat) (ps qs : List Part) (done : List Nat) (st : List Part × List (Nat × Nat)) : Prop where
  keys : st.2.map (fun (x : Nat × Nat) => x.1) = done
  lt : ∀ x : Nat × Nat, x ∈ st.2 → x.2 < st.1.length
  len : st.1.length ≤ qs.length + done.length
  ok : Ok w2 st.1
  pre : qs <+: st.1
theorem CInv.look {w2 : Nat} {ps qs : List Part} {done : List Nat} {st : List Part × List (Nat × Nat)} (c : CInv w2 ps qs done st) {a : Nat} (h : a ∈ done) : My.look st.2 a < st.1.length :=
  c.lt _ (look_mem (by rw [c.keys]; exact h))
theorem CInv.start {w2 : Nat} {ps qs : List Part} (h : Ok w2 qs) : CInv w2 ps qs [] (qs, []) := ⟨rfl, fun _ m => by simp at m, Nat.le_refl _, h, List.prefix_refl _⟩
theorem CInv.step {w2 : Nat} (h1 : 1 ≤ w2) {ps qs : List Part} {done : List Nat} {st : List Part × List (Nat × Nat)} {k : Nat} {p : Part} (c : CInv w2 ps qs done st) (hg : GetOk ps) (hp : ps[k]? = some p)
    (hab : ∀ o a b, p = Part.op o a b → a ∈ done ∧ b ∈ done) : CInv w2 ps qs (done ++ [k]) (cstep w2 ps st k) := by
  have key : (cstepR w2 ps st k).1 < (cstepR w2 ps st k).2.length ∧ (cstepR w2 ps st k).2.length ≤ st.1.length + 1 ∧ Ok w2 (cstepR w2 ps st k).2 ∧ st.1 <+: (cstepR w2 ps st k).2 := by
    unfold cstepR
    rw [hp]
    cases p with
    | num v => exact ⟨mk_lt _ _, mk_len _ _, ok_mk c.ok trivial ⟨Int.emod_nonneg _ (by have := pow_pos' w2; omega), Int.emod_lt_of_pos _ (pow_pos' w2)⟩, mk_pre _ _⟩
    | get i => exact ⟨mk_lt _ _, mk_len _ _, ok_mk c.ok trivial (hg _ _ hp), mk_pre _ _⟩
    | op o a b =>
      obtain ⟨ha, hb⟩ := hab o a b rfl
      exact ⟨mApply_lt (c.look ha) (c.look hb), mApply_len _ _ _ _ _, ok_mApply h1 c.ok (c.look ha) (c.look hb), mApply_pre _ _ _ _ _⟩
  refine ⟨?_, fun x hx => ?_, ?_, key.2.2.1, c.pre.trans key.2.2.2⟩
  · show (st.2 ++ [(k, (cstepR w2 ps st k).1)]).map (fun (x : Nat × Nat) => x.1) = _
    rw [List.map_append, c.keys]; rfl
  · rcases List.mem_append.mp hx with hx | hx
    · have := c.lt x hx
      have := key.2.2.2.length_le
      show x.2 < (cstepR w2 ps st k).2.length
      omega
    · simp at hx; subst hx; exact key.1
  · show (cstepR w2 ps st k).2.length ≤ _
    have := c.len
    rw [List.length_append, List.length_singleton]; omega
theorem asc_take {ks : List Nat} (h : ks.Pairwise (· < ·)) {i k z : Nat} (hk : ks[i]? = some k) (hz : z ∈ ks) (hzk : z < k) : z ∈ ks.take i := by
  obtain ⟨j, hj, rfl⟩ := List.getElem_of_mem hz
  have hi := (List.getElem?_eq_some_iff.mp hk).1
  have ek := (List.getElem?_eq_some_iff.mp hk).2
  by_cases hji : j < i
  · exact List.mem_take_iff_getElem.mpr ⟨j, by omega, rfl⟩
  · exfalso
    by_cases e : j = i
    · subst e; omega
    · have := List.pairwise_iff_getElem.mp h i j hi hj (by omega)
      omega
end My

/-! R4 -/
namespace My
open PySem L2
def dv (f : Nat → Int) (l : List Nat) : List (Key × V) := l.map fun (k : Nat) => (Sum.inl ((k : Nat) : Int), V.int (f k))
theorem dv_len (f : Nat → Int) (l : List Nat) : (dv f l).length = l.length := by unfold dv; simp
theorem valV_dv (f : Nat → Int) (k : Nat) : ∀ l : List Nat, valV (dv f l) (Sum.inl (k : Int)) = if k ∈ l then some (.int (f k)) else none
  | [] => rfl
  | j :: l => by
    have ih := valV_dv f k l
    unfold dv at ih ⊢
    rw [List.map_cons]
    by_cases e : j = k
    · subst e
      rw [valV_pos rfl, if_pos List.mem_cons_self]
    · rw [valV_neg (fun z => e (by have := Sum.inl.inj z; exact Int.ofNat.inj this)), ih]
      by_cases m : k ∈ l
      · rw [if_pos m, if_pos (List.mem_cons_of_mem _ m)]
      · rw [if_neg m, if_neg (fun z => m ((List.mem_cons.mp z).resolve_left (fun y => e y.symm)))]
theorem dv_put {f : Nat → Int} {l : List Nat} {k : Nat} (h : k ∉ l) : putK (dv f l) (Sum.inl (k : Int)) (.int (f k)) = dv f (l ++ [k]) := by
  rw [putK_new _ (by rw [valV_dv, if_neg h])]; unfold dv; simp
theorem not_in_take {ks : List Nat} (h : ks.Pairwise (· < ·)) {j k : Nat} (hk : ks[j]? = some k) : k ∉ ks.take j := by
  intro hm
  obtain ⟨j', hj', e⟩ := List.mem_take_iff_getElem.mp hm
  have hjl := (List.getElem?_eq_some_iff.mp hk).1
  have ejk := (List.getElem?_eq_some_iff.mp hk).2
  have := List.pairwise_iff_getElem.mp h j' j (by omega) hjl (by omega)
  omega
theorem take_snoc {α : Type} {l : List α} {j : Nat} {x : α} (h : l[j]? = some x) : l.take (j + 1) = l.take j ++ [x] := by rw [List.take_add_one, h]; rfl
def envOf (ws : List Int) : Int → Int := fun g => ws.getD g.toNat 0
end My

/-! R5 -/
namespace My
open PySem L2
/-! ### parts compared -/
def Part.pd : Part → PyData
  | .num v => .tuple [.str "num", .int v] | .get i => .tuple [.str "get", .int i] | .op o a b => .tuple [.str o.s, .int (a : Nat), .int (b : Nat)]
theorem dp_part {K : PySem.W.Frag} {H : Hp} {t : Addr} {p : Part} (h : H t = some (.tup p.vals)) : Dp K H (.ref t) p.pd := by
  cases p with
  | num v => exact .tup (SqT.of h) (.cons (.str _) (.cons (.int _) .nil))
  | get v => exact .tup (SqT.of h) (.cons (.str _) (.cons (.int _) .nil))
  | op o a b => exact .tup (SqT.of h) (.cons (.str _) (.cons (.int _) (.cons (.int _) .nil)))
theorem shaped_part (p : Part) : SeqAt.shaped p.pd = true := by
  have e1 : PyData.strOk (Str.ofString "num") = true := by decide +kernel
  have e2 : PyData.strOk (Str.ofString "get") = true := by decide +kernel
  have e3 : ∀ o : Op, PyData.strOk o.s = true := by intro o; cases o <;> decide +kernel
  cases p <;> simp [SeqAt.shaped, Part.pd, PyData.canLay0, PyData.canLayAll0, PyData.depth, PyData.depthAll, e1, e2, e3]
theorem beq_ofs (o o' : Op) : (o.s == o'.s) = decide (o = o') := by cases o <;> cases o' <;> decide +kernel
theorem eqv_pd (p q : Part) : PyData.eqv p.pd q.pd = decide (p = q) := by
  have n1 : (("num" : Str) == "get") = false := by decide +kernel
  have n2 : (("get" : Str) == "num") = false := by decide +kernel
  have n3 : (("get" : Str) == "get") = true := by decide +kernel
  have n4 : (("num" : Str) == "num") = true := by decide +kernel
  have bi : ∀ a b : Int, (a == b) = decide (a = b) := fun a b => by by_cases e : a = b <;> simp [e]
  have dec : ∀ {A B : Prop} [Decidable A] [Decidable B], (A ↔ B) → decide A = decide B := fun h => by simp [h]
  cases p with
  | num v => cases q with
    | num w => simp only [Part.pd, PyData.eqv, PyData.eqvAll, n4, bi, Bool.true_and, Bool.and_true]; exact dec ⟨fun e => by rw [e], fun e => by injection e⟩
    | get w => simp only [Part.pd, PyData.eqv, PyData.eqvAll, n1, Bool.false_and]; simp
    | op o a b => simp only [Part.pd, PyData.eqv, PyData.eqvAll, Bool.and_false]; simp
  | get v => cases q with
    | num w => simp only [Part.pd, PyData.eqv, PyData.eqvAll, n2, Bool.false_and]; simp
    | get w => simp only [Part.pd, PyData.eqv, PyData.eqvAll, n3, bi, Bool.true_and, Bool.and_true]; exact dec ⟨fun e => by rw [e], fun e => by injection e⟩
    | op o a b => simp only [Part.pd, PyData.eqv, PyData.eqvAll, Bool.and_false]; simp
  | op o a b => cases q with
    | num w => simp only [Part.pd, PyData.eqv, PyData.eqvAll, Bool.and_false]; simp
    | get w => simp only [Part.pd, PyData.eqv, PyData.eqvAll, Bool.and_false]; simp
    | op o' a' b' =>
      simp only [Part.pd, PyData.eqv, PyData.eqvAll, beq_ofs, bi, Bool.and_true]
      by_cases e1 : o = o' <;> by_cases e2 : a = a' <;> by_cases e3 : b = b' <;> simp [e1, e2, e3]
      all_goals (first | (intro z; omega) | omega | skip)
theorem eqT {K : PySem.W.Frag} {H : Hp} {t u : Addr} {p q : Part} {Q : VK} (ht : H t = some (.tup p.vals)) (hu : H u = some (.tup q.vals)) (h : Q (.bl (decide (p = q))) H) : rEqD K (.ref t) (.ref u) H Q :=
  ⟨p.pd, q.pd, dp_part ht, dp_part hu, shaped_part p, shaped_part q, by rw [eqv_pd]; exact h⟩
theorem idxOf_le {a : Part} : ∀ {l : List Part} {i : Nat}, l[i]? = some a → l.idxOf a ≤ i
  | [], i, h => by simp at h
  | x :: l, 0, h => by
    have e : x = a := Option.some.inj h
    subst e; simp
  | x :: l, i + 1, h => by
    have ih := idxOf_le (l := l) (i := i) (a := a) h
    rw [List.idxOf_cons]
    cases (x == a) <;> simp <;> omega
theorem word_iff (p : Part) (v : Int) : p.word = some v ↔ p = .num v := by cases p <;> simp [Part.word]
end My

/-! R6 -/
namespace My
open PySem L2
theorem ixN_nat {n a : Nat} (h : a < n) : ixN n (a : Int) = some a := by
  unfold ixN
  rw [if_pos (by omega), if_pos (by omega)]; rfl
/-! ### marks, from the back -/
structure MInv (ps : List Part) (i : Nat) (m : List Bool) (done : Nat) : Prop where
  len : m.length = ps.length
  rch : ∀ k, m[k]? = some true → Reach ps i k
  root : m[i]? = some true
  clo : ∀ k o a b, ps.length ≤ k + done → m[k]? = some true → ps[k]? = some (Part.op o a b) → m[a]? = some true ∧ m[b]? = some true
theorem set_mark {m : List Bool} {a k : Nat} (h : (m.set a true)[k]? = some true) : k = a ∨ m[k]? = some true := by
  rw [List.getElem?_set] at h
  split at h
  · rename_i e; exact .inl e.symm
  · exact .inr h
theorem set_mono {m : List Bool} {a k : Nat} (h : m[k]? = some true) : (m.set a true)[k]? = some true := by
  rw [List.getElem?_set]
  split
  · rename_i e; subst e
    rw [if_pos (List.getElem?_eq_some_iff.mp h).1]
  · exact h
theorem set_self {m : List Bool} {a : Nat} (h : a < m.length) : (m.set a true)[a]? = some true := by
  rw [List.getElem?_set, if_pos rfl, if_pos h]
theorem MInv.start {ps : List Part} {i : Nat} (hi : i < ps.length) : MInv ps i ((List.replicate ps.length false).set i true) 0 := by
  refine ⟨by simp, fun k h => ?_, set_self (by simpa using hi), fun k o a b hk h e => ?_⟩
  · rcases set_mark h with rfl | h
    · exact .self
    · rw [List.getElem?_replicate] at h
      split at h <;> cases h
  · have := (List.getElem?_eq_some_iff.mp e).1; omega
theorem MInv.skip {ps : List Part} {i at_ done : Nat} {m : List Bool} (h : MInv ps i m done) (e : at_ + done + 1 = ps.length) (no : m[at_]? = some true → ∀ o a b, ps[at_]? ≠ some (Part.op o a b)) : MInv ps i m (done + 1) :=
  ⟨h.len, h.rch, h.root, fun k o a b hk hm hp => by
    by_cases ek : k = at_
    · subst ek; exact absurd hp (no hm o a b)
    · exact h.clo k o a b (by omega) hm hp⟩
theorem MInv.mark {ps : List Part} {i at_ done : Nat} {m : List Bool} {o : Op} {a b : Nat} (h : MInv ps i m done) (wf : WF ps) (e : at_ + done + 1 = ps.length) (hm : m[at_]? = some true) (hp : ps[at_]? = some (Part.op o a b)) : MInv ps i ((m.set a true).set b true) (done + 1) := by
  have ab := wf _ _ _ _ hp
  have hr := h.rch _ hm
  refine ⟨by simp [h.len], fun k hk => ?_, set_mono (set_mono h.root), fun k o' a' b' hk hm' hp' => ?_⟩
  · rcases set_mark hk with rfl | hk
    · exact .right hr hp
    · rcases set_mark hk with rfl | hk
      · exact .left hr hp
      · exact h.rch _ hk
  · by_cases ek : k = at_
    · subst ek
      rw [hp] at hp'
      cases hp'
      exact ⟨set_mono (set_self (by rw [h.len]; omega)), set_self (by rw [List.length_set, h.len]; omega)⟩
    · have hk2 : m[k]? = some true := by
        rcases set_mark hm' with rfl | hm'
        · omega
        · rcases set_mark hm' with rfl | hm'
          · omega
          · exact hm'
      have := h.clo k o' a' b' (by omega) hk2 hp'
      exact ⟨set_mono (set_mono this.1), set_mono (set_mono this.2)⟩
def markL (m : List Bool) (j : Nat) : List Nat := (List.range j).filter fun k => decide (m[k]? = some true)
theorem markL_yes {m : List Bool} {j : Nat} (h : m[j]? = some true) : markL m (j + 1) = markL m j ++ [j] := by
  unfold markL; rw [List.range_succ, List.filter_append]; simp [h]
theorem markL_no {m : List Bool} {j : Nat} (h : ¬ m[j]? = some true) : markL m (j + 1) = markL m j := by
  unfold markL; rw [List.range_succ, List.filter_append]; simp [h]
theorem markL_len (m : List Bool) (j : Nat) : (markL m j).length ≤ j := by
  unfold markL; exact Nat.le_trans (List.length_filter_le _ _) (by simp)
theorem MInv.done {ps : List Part} {i : Nat} {m : List Bool} (h : MInv ps i m ps.length) (wf : WF ps) (hi : i < ps.length) : ReachL ps i (markL m ps.length) := by
  refine ⟨List.Pairwise.filter _ List.pairwise_lt_range, fun k => ?_⟩
  have back : Reach ps i k → m[k]? = some true := by
    intro r
    induction r with
    | self => exact h.root
    | left r e ih => exact (h.clo _ _ _ _ (by omega) ih e).1
    | right r e ih => exact (h.clo _ _ _ _ (by omega) ih e).2
  unfold markL
  rw [List.mem_filter, List.mem_range]
  exact ⟨fun z => h.rch k (of_decide_eq_true z.2), fun r => ⟨by have := r.le wf; omega, decide_eq_true (back r)⟩⟩
end My

/-! R7 -/
namespace My
open PySem L2
theorem dpAll_parts {K : PySem.W.Frag} {H : Hp} : ∀ (ts : List Addr) (ps : List Part), ts.length = ps.length → (∀ (i : Nat) (p : Part), ps[i]? = some p → ∃ t, ts[i]? = some t ∧ H t = some (.tup p.vals)) → DpAll K H (ts.map V.ref) (ps.map Part.pd)
  | [], [], _, _ => .nil
  | [], p :: ps, h, _ => by cases h
  | t :: ts, [], h, _ => by cases h
  | t :: ts, p :: ps, h, g => by
    obtain ⟨t', e, ht⟩ := g 0 p rfl
    cases e
    exact .cons (dp_part ht) (dpAll_parts ts ps (by simpa using h) fun i q e => g (i + 1) q e)
theorem dp_list {K : PySem.W.Frag} {H : Hp} {l : Addr} {ps : List Part} (h : LAt H l ps) : Dp K H (.ref l) (.list (ps.map Part.pd)) := by
  obtain ⟨ts, h1, h2, h3⟩ := h
  exact .lst (SqL.of h1) (dpAll_parts ts ps h2 h3)
theorem depth_part (p : Part) : p.pd.depth ≤ 2 := by cases p <;> simp [Part.pd, PyData.depth, PyData.depthAll]
theorem lay_part (p : Part) : p.pd.canLay0 = true := by
  have := shaped_part p
  unfold SeqAt.shaped at this
  simp at this; exact this.1
theorem depthAll_parts : ∀ ps : List Part, PyData.depthAll (ps.map Part.pd) ≤ 3
  | [] => by simp [PyData.depthAll]
  | p :: ps => by
    have := depthAll_parts ps
    have := depth_part p
    simp [PyData.depthAll]; omega
theorem layAll_parts : ∀ ps : List Part, PyData.canLayAll0 (ps.map Part.pd) = true
  | [] => by simp [PyData.canLayAll0]
  | p :: ps => by
    simp [PyData.canLayAll0, layAll_parts ps, lay_part p]
theorem shaped_list (ps : List Part) : SeqAt.shaped (.list (ps.map Part.pd)) = true := by
  have h1 := layAll_parts ps
  have h2 := depthAll_parts ps
  simp [SeqAt.shaped, PyData.canLay0, PyData.depth, h1]; omega
theorem eqvAll_parts : ∀ ps : List Part, PyData.eqvAll (ps.map Part.pd) (ps.map Part.pd) = true
  | [] => by simp [PyData.eqvAll]
  | p :: ps => by simp [PyData.eqvAll, eqv_pd, eqvAll_parts ps]
theorem eqL {K : PySem.W.Frag} {H : Hp} {l m : Addr} {ps : List Part} {Q : VK} (hl : LAt H l ps) (hm : LAt H m ps) (h : Q (.bl true) H) : rEqD K (.ref l) (.ref m) H Q :=
  ⟨_, _, dp_list hl, dp_list hm, shaped_list ps, shaped_list ps, by
    have : PyData.eqv (.list (ps.map Part.pd)) (.list (ps.map Part.pd)) = true := by simp [PyData.eqv, eqvAll_parts]
    rw [this]; exact h⟩
end My

/-! Kit3 -/
/-! own exception classes over Exception (or over own classes over it) with an __init__ that stores -/
namespace My
open PySem PySem.Spec PyProof.Rows L2
abbrev exB : List Value := [.type "Exception", .type "BaseException", .type "object"]
theorem exB_has (Y : String) (bm : List Value) (h : PySem.W.excTail exB bm = true) : bm.contains (.type Y) = exB.contains (.type Y) := PySem.W.excTail_contains Y bm h
section
open Builtin Builtin.ObjectAttr
variable {prog : Program} {w : World} {A : Around} {R : Result → Shared → Prop} {hp : Heap} {g : Array GenState} {d : Drawn} {t : Nat} {os : OsState}
/-- the first field -/
theorem osaE {K : PySem.W.Frag} {nm : Str} {tk : Tok} {u : Value} {x C : Addr} {fv : Array Value} {cd : ClassData} {tl : List Value}
    (X : K.In hp) (ox : hp.get? x = some { cls := .ref C, data := .fields fv }) (ec : PySem.W.clsIn K C = some cd) (em : cd.mro = .ref C :: tl) (et : PySem.W.excTail exB tl = true) (hh : cd.hasDict = true) (no : PySem.W.findIn K (.ref C) nm = some none)
    (fin : ∀ h' tk' dx, (∀ b o, b ≠ x → hp.get? b = some o → h'.get? b = some o) → hp.objs.size ≤ dx → dx ≠ x → h'.get? x = some { cls := .ref C, dict := some dx, data := .fields fv } →
      h'.Ns1 dx (fun y => if y = nm then some u else none) → R (.ok (.ret .none)) ⟨h', g, d, tk', os⟩) :
    codeAny (model prog w) A (.call (.builtin "object.__setattr__") ⟨[.ref x, .str nm tk, u], []⟩) R ⟨hp, g, d, t, os⟩ := by
  have At : PySem.W.InstAt hp x { cls := .ref C, data := .fields fv } C none := ⟨ox, rfl, rfl, trivial⟩
  have SO := F.store_object
  have me : cd.mro.isEmpty = false := by rw [em]; rfl
  have mo : cd.mro.contains (.type "object") = true := by rw [em, List.contains_cons, exB_has _ _ et, show exB.contains (.type "object") = true by decide +kernel, Bool.or_true]
  have xs : x ≠ hp.objs.size := Nat.ne_of_lt (Heap.lt_size ox)
  have kind : PySem.W.Looks (model prog w) hp (isInstance (.ref x) (.type "object")) true := At.type.andThen (PySem.W.looks_mroIn X (by unfold PySem.W.mroIn; rw [ec, Option.bind_some, if_neg (by rw [me]; decide), mo]))
  refine codeAny_call_builtin SO.slot.plain SO.entry (@PySem.W.check_slot (model prog w) _ _ ⟨hp, g, d, t, os⟩ "object.__setattr__" "object" "__setattr__" (.ref x) [.str nm tk, u] [] _ SO.kind SO.split kind (SO.args (.ref x) (.str nm tk) u) ?_)
  have lm : PySem.W.Looks (model prog w) hp (mroOf (.ref C)) cd.mro := (PySem.W.looks_clsIn X ec).andThen .now
  have l0 : PySem.W.Looks (model prog w) hp (storeTaker? none) none := .now
  have lc : PySem.W.Looks (model prog w) hp (classData C) cd := PySem.W.looks_clsIn X ec
  rw [PySem.W.osa_eq, refuse_eq]
  refine wpAny_bind (wpAny_bind (At.type.at (wpAny_bind (lm.at ?_))))
  rw [em, refuseLoop_ref, PySem.W.excTail_pass _ (PySem.F.store_Exception.passes _) _ et]
  refine wpAny_pure (wpAny_bind (At.type.at (wpAny_bind ((PySem.W.looks_findIn X no).at (wpAny_bind (l0.at ?_))))))
  show wpAny _ _ (storeInOwnDict (.ref x) (.ref C) (.str nm tk) nm u false) _ _ _
  obtain ⟨_, _, _, _, _, hd, _, _, _, _, _⟩ := cd
  simp only at hh
  subst hh
  unfold storeInOwnDict ownDictForStores
  repeat (first | with_reducible refine PySem.HandSPX.store_in_new ?_ ?_ | with_reducible refine wpAny_loadPart_at ox ?_ | with_reducible refine lc.at ?_ | wp_step)
  · exact ⟨_, #[], _, (Heap.get?_update_ne _ _ _ _ xs.symm).trans (Heap.get?_push_at rfl rfl), rfl, fun e he => absurd he (by simp), fun _ => rfl⟩
  · intro h1 tk1 n1 s1
    have ox1 : (hp.push { cls := .type "dict", data := .dict #[] }).get? x = some { cls := .ref C, data := .fields fv } := Heap.get?_push_of_some _ ox
    exact fin h1 tk1 hp.objs.size (fun b o hb ho => (s1.2 b (Nat.ne_of_lt (Heap.lt_size ho))).trans ((Heap.get?_update_ne _ _ _ _ hb).trans (Heap.get?_push_of_some _ ho))) (Nat.le_refl _) xs.symm ((s1.2 x xs).trans (Heap.get?_update_self _ ox1 rfl)) n1
end
/-- what the written part says of such a class -/
structure OexE (K : PySem.W.Frag) (C : Addr) : Prop where
  row : ∃ nm q N bs bm sn sub ab col dd k0 k1 k2 k3 k5, K.lookup C = some (excClassObj nm q C N bs bm true sn sub ab col dd k0 k1 k2 k3 k5 "Exception.__new__") ∧ PySem.W.excTail exB bm = true
  sa : PySem.W.findIn K (.ref C) "__setattr__" = some (some (.builtin "object.__setattr__"))
  ex : PySem.W.subIn K (.ref C) (.type "BaseException") = some true
  ty : PySem.W.typeIn K (.ref C) = some (.type "type")
  kp : PySem.W.keepIn K (.ref C) = true
section
variable {X : Cx} {pins : List (Addr × Obj)} {σ : L2.St} {H : Hp} {s : Shared} {a C dx : Addr} {f : Str} {y : V} {u : Value} {Q : Unit → Shared → Prop} {E : Value → Shared → Prop} {A : Around}
theorem ost1E (T : OexE X.K C) (I : Inv X pins σ H s) (ha : H a = some (exo a C none)) (no : PySem.W.findIn X.K (.ref C) f = some none) (ry : RelV y u)
    (fin : ∀ dx s', H dx = none → dx ≠ a → Inv X pins σ (upd (upd H dx (exd dx [(f, y)])) a (exo a C (some dx))) s' → Q () s') : wpAny (model X.prog X.w) A (setAttr (.ref a) f u) Q E s := by
  obtain ⟨nm, q, N, bs, bm, sn, sub, ab, col, dd, k0, k1, k2, k3, k5, lk, tl⟩ := T.row
  have ec : PySem.W.clsIn X.K C = some { name := nm, bases := bs, mro := .ref C :: bm, ns := N, qualname := q, hasDict := true, slotNames := sn, subclasses := sub, abstract := ab, collection := col, hasDel := false } := by
    unfold PySem.W.clsIn; rw [lk] <;> rfl
  obtain ⟨t1, oa⟩ := exo_at I.hok ha
  obtain ⟨hp, g, d, t, os⟩ := s
  refine PySem.W.set_plain I.kIn (ox := { cls := .ref C, dict := none, data := .fields #[.ref t1, .none, .none, .none, .bool false, .none] }) (od := none) ⟨oa, rfl, rfl, trivial⟩ T.sa ?_
  refine osaE I.kIn oa ec rfl tl rfl no fun h1 tk1 dx kp big dxa hx1 hn1 => ?_
  have hdx : H dx = none := I.hok.fresh big
  have off : ∀ {b : Addr} {o : Obj}, hp.get? b = some o → b ≠ dx := fun {b o} e => Nat.ne_of_lt (Nat.lt_of_lt_of_le (Heap.lt_size e) big)
  have offa : ∀ {b : Addr}, H b = none → b ≠ a := fun {b} e z => by
    rw [z, ha] at e; cases e
  have U : Un X.fs [] H (upd (upd H dx (exd dx [(f, y)])) a (exo a C (some dx))) hp h1 := by
    constructor
    case keep => exact fun b o e n _ _ => kp b o (offa n) e
    case slot => exact fun b o e n _ _ => ⟨o.slots, kp b o (offa n) e⟩
    case free => exact fun b o e n _ => by rw [upd_ne (offa n), upd_ne (off e)]; exact n
    case there =>
      intro b o e _
      by_cases hb : b = a
      · subst hb; exact ⟨_, hx1⟩
      · exact ⟨o, kp b o hb e⟩
    case tups => exact fun b xs e => by rw [upd_ne (at_ne ha e exo_tup), upd_ne (ne_of_none e hdx)]; exact e
    case frzs => exact fun b o v e => by rw [upd_ne (at_ne ha e exo_frz), upd_ne (ne_of_none e hdx)]; exact e
    case tbls => exact fun b ps e => ⟨#[], by rw [upd_ne (at_ne ha e exo_tbl), upd_ne (ne_of_none e hdx), e]; simp⟩
  refine fin dx _ hdx dxa (I.un (t' := tk1) U fun b o e => ?_)
  by_cases hb : b = a
  · subst hb
    rw [upd_same] at e; cases e
    exact exo_ok hx1
  rw [upd_ne hb] at e
  by_cases hd : b = dx
  · subst hd
    rw [upd_same] at e; cases e
    exact exd_ok hn1 (relO_put (fs := []) ry fun _ => True.intro)
  rw [upd_ne hd] at e
  refine (I.hok b o e).stay (fun c v hc z => kp c v ?_ z) (fun c hc => ?_) fun c xs hc => ?_
  · rcases hc with hc | hc
    · rw [hc]; exact hb
    · exact at_ne ha hc exo_own
  · rw [upd_ne (at_ne ha hc exo_own), upd_ne (ne_of_none hc hdx)]; exact hc
  · rw [upd_ne (at_ne ha hc exo_tup), upd_ne (ne_of_none hc hdx)]; exact hc
end
/-- self.f = e within such an __init__: the first one -/
def tOst1 (K : PySem.W.Frag) (f : Str) (to te : TE) : TS := fun D σ H => te σ H fun y H1 => to σ H1 fun x H2 => ∃ a C : Addr, x = .ref a ∧ OexE K C ∧ PySem.W.findIn K (.ref C) f = some none ∧ H2 a = some (exo a C none) ∧
  ∀ dx, H2 dx = none → dx ≠ a → D.nx σ (upd (upd H2 dx (exd dx [(f, y)])) a (exo a C (some dx)))
theorem ps_ost1 {X : Cx} {o e : Expr} {to te : TE} {f : Str} {p' pos : Pos} (ho : PE X o to) (he : PE X e te) (hs : swapsWith e (some (.Attribute o f p')) pos.line X.env = pure false := by rfl) : PS X (.Assign [.Attribute o f p'] e pos) (tOst1 X.K f to te) := by
  refine ⟨fun pins s σ H D I h => plainObj_wpAny_Assign_Attribute (thn (he.run pins s σ H _ I h) fun v s1 ⟨y, H1, I1, r1, q1⟩ => thn (ho.run pins s1 σ H1 _ I1 q1) fun u s2 ⟨x, H2, I2, r2, a, C, ex, T, no, ea, q⟩ => ?_) hs⟩
  subst ex
  obtain rfl : u = Value.ref a := r2
  exact ost1E T I2 ea no r1 fun dx s' n ne J => ⟨σ, _, J, q dx n ne⟩
/-- raise C(e, ..) where C's __init__ keeps sp -/
def tMkE (C : Addr) (sp : Sp) (ta : TA) : L2.St → Hp → XK → Prop := fun σ H Q => ta σ H fun vs H1 => vs.length ≤ 1000 ∧ ∀ a, H1 a = none → sp (.ref a :: vs) (upd H1 a (exo a C none))
  (fun v H2 => v = .non ∧ ∃ (d : Addr) (fs : List (Str × V)), H2 a = some (exo a C (some d)) ∧ H2 d = some (exd d fs) ∧ H1 d = none ∧ Q (.ref C) (some d) (upd (del H2 a) d (.xd fs))) (fun _ _ _ => False)
theorem pmk_E {X : Cx} {e : Expr} {es : List Expr} {ta : TA} {p pos : Pos} {x : Str} {C fI : Addr} {k : Nat} {fd : FuncData} {ps : List Str} {sp : Sp} (T : OexE X.K C) (iC : PySem.W.findIn X.K (.ref C) "__init__" = some (some (.ref fI))) (tI : PySem.W.typeIn X.K (.ref fI) = some (.type "function"))
    (G : FnOk X.prog X.w X.K X.mg X.base CX0 k fI fd ps sp) (hr : Room (k + 1) X.A) (hb : Binds X.K fd ps []) (hg : Gl X x) (hm : X.mg x = some (.ref C)) (ha : PA X (e :: es) ta)
    (nd : (x == ("__debug__" : Str)) = false := by decide) (he : starEach (e :: es) X.env = (false, eval e X.env) :: starEach es X.env := by rfl) (hpl : (backTo pos (starEach es X.env)).any (·.1) = false := by rfl) :
    PMk X (.Call (.Name x p) (e :: es) [] pos) (tMkE C sp ta) := by
  intro pins s σ H Q I h
  obtain ⟨nm, q, N, bs, bm, sn, sub, ab, col, dd, k0, k1, k2, k3, k5, lk, tl⟩ := T.row
  refine wpAny_Call_Name_kw (ld_glob I hg hm ?_ nd)
  refine PySem.W.callWith_K (h₀ := X.base) I.ok.mod.kin T.kp (thn (ha.run pos pins s σ H _ I h) fun us s1 ⟨vs, H1, I1, r1, small, q1⟩ => ⟨I1.kIn, ?_⟩) he hpl
  show wpAny _ _ (call (.ref C) us) _ _ _
  obtain ⟨hp, g, dr, tk, os⟩ := s1
  have le1 : hp.objs.size ≤ hp.objs.size + 1 := Nat.le_succ _
  have hq := q1 (hp.objs.size + 1) (I1.hok.fresh le1)
  have up : ∀ b o, hp.get? b = some o → ((hp.push (PySem.W.kdv_tup us)).push (PySem.HandSPX.excO C hp.objs.size)).get? b = some o := fun b o z => Heap.get?_push_of_some _ (Heap.get?_push_of_some _ z)
  have top : ((hp.push (PySem.W.kdv_tup us)).push (PySem.HandSPX.excO C hp.objs.size)).get? (hp.objs.size + 1) = some (PySem.HandSPX.excO C hp.objs.size) := by heap_get
  have J : Inv X pins σ (upd H1 (hp.objs.size + 1) (exo (hp.objs.size + 1) C none)) ⟨(hp.push (PySem.W.kdv_tup us)).push (PySem.HandSPX.excO C hp.objs.size), g, dr, tk, os⟩ :=
    I1.laid (t' := tk) (a := hp.objs.size + 1) (o := exo (hp.objs.size + 1) C none) up le1 (exo_ok top)
  have rel : Vals (V.ref (hp.objs.size + 1) :: vs) (Value.ref (hp.objs.size + 1) :: us) := .cons rfl r1
  have ln : (Value.ref (hp.objs.size + 1) :: us).length = ps.length := by
    have z := rel.length
    rw [G.len _ _ _ _ hq] at z
    exact z.symm
  have lu : us.length ≤ sizeLine := by
    rw [← Paired.length r1, sizeLine_eq]; omega
  have bd : BindsTo (⟨(hp.push (PySem.W.kdv_tup us)).push (PySem.HandSPX.excO C hp.objs.size), g, dr, tk, os⟩ : Shared) fd ⟨Value.ref (hp.objs.size + 1) :: us, []⟩ (ps.zip (Value.ref (hp.objs.size + 1) :: us)) := by
    have z := hb _ (Value.ref (hp.objs.size + 1) :: us) J.kIn (by simpa using ln)
    simpa using z
  refine wpAny_call (PySem.HandSPX.call_own F.excBase_Exception (fun Y => exB_has Y bm tl) (I1.kIn _ _ lk) (PySem.W.looks_findIn I1.kIn iC) (fun self => PySem.W.bind_fn I1.kIn self tI) lu
    (codeAny_mono (G.run _ X.stack _ _ ⟨Value.ref (hp.objs.size + 1) :: us, []⟩ (Value.ref (hp.objs.size + 1) :: us) _ _ (fun _ _ _ => False) (hr.make C us []) (J.env0.make C us []) bd rel hq) fun r s' z => ?_))
  cases r with
  | error er => exact False.elim z
  | ok fl =>
    cases fl with
    | ret v =>
      obtain ⟨v', H2, os2, bare2, un2, hok2, rv, ev, d, fs, ea, ed, nd1, q2⟩ := z
      subst ev
      obtain ⟨h2, g2, d2, t2, os'⟩ := s'
      exact ⟨rv, mk_end (raises_own T.ex T.ty) I1 le1 up un2 hok2 os2 bare2 ea ed nd1 q2⟩
    | next => exact z.elim
    | brk => exact z.elim
    | cont => exact z.elim
end My

/-! Kit4 -/
/-! a list comprehension whose items may raise -/
namespace My
open PySem PySem.Spec PyProof.Rows L2
section
variable {M : Model} {A : Around} {E : Value → Shared → Prop} {s : Shared} {env : Env}
theorem comp_either {e : Expr} {scope : Scope} {pos : Pos} {mkAcc first : Sem Value} {g : Comprehension} {gs : List Comprehension} {cl : List (Str × Addr)} {Q : Value → Shared → Prop}
    (ec : clausesOf e = g :: gs) (ef : ∀ x, foldedSetIterable g.iter env x = pure x) (eo : closureFor scope env = pure cl) (hk : scope.kind = .function) (hn : ∀ x ∈ scope.names, x.2 = .local → scope.names.lookup x.1 = some .local)
    (h : wpAny M A first (fun x s1 => wpAny M A (pyIter x) (fun it s2 => wpAny M A mkAcc (fun acc s3 => wpAny M A (newFunctionEnv scope env.globals cl [] env.qual none .none (some env)) (fun ce s4 =>
      codeAny M A (.compStart e 0 it acc { ce with scope := relabel scope env }) (fun r s' => ∃ m, s'.heap.Ns ce.locals m ∧ ∀ h', Heap.SameBut ce.locals s'.heap h' →
        match r with | .ok _ => Q acc { s' with heap := h' } | .error x => wpAny M A (PySem.passOn "comprehension.variables-let-go" x { ce with scope := relabel scope env } : Sem Value) (fun _ _ => False) E { s' with heap := h' }) s4) E s3) E s2) E s1) E s) :
    wpAny M A (comprehension e scope env pos mkAcc false first none) Q E s := by
  unfold comprehension
  rw [eo, ec]
  refine wpAny_bind (wpAny_mono h (fun x s1 h1 => ?_) fun _ _ z => z)
  refine wpAny_bind (wpAny_standAt ?_)
  refine wpAny_bind (wpAny_of_eq (ef x) ?_)
  refine wpAny_bind (wpAny_holding (wpAny_mono h1 (fun it s2 h2 => ?_) fun _ _ z => z))
  refine wpAny_standIf ?_
  refine wpAny_bind (wpAny_mono h2 (fun acc s3 h3 => ?_) fun _ _ z => z)
  refine wpAny_bind (wpAny_pure ?_)
  refine wpAny_bind (wpAny_mono h3 (fun ce s4 h4 => ?_) fun _ _ z => z)
  dsimp only
  have loc : ∀ x ∈ (scope.names.filter fun x => (x.2 == .local || x.2 == .cell) && x.1 != (".0" : Str)).reverse, x.2 = .local → Env.kindOf { ce with scope := relabel scope env } x.1 = some .local :=
    fun x hx hl => lookup_relabel_local (hn x (List.mem_filter.mp (List.mem_reverse.mp hx)).1 hl)
  refine wpAny_holding (wpAny_bind (wpAny_attempt (wpAny_holding (wpAny_run (codeAny_mono h4 fun r s' hr => ?_)))))
  obtain ⟨m, ns, go⟩ := hr
  cases r with
  | ok f => exact wpAny_bind (wpAny_holding (wpAny_comp_letGo (cenv := { ce with scope := relabel scope env }) hk _ s' m loc ns fun h' m' _ sb => wpAny_pure (go h' sb)))
  | error x => exact wpAny_bind (wpAny_holding (wpAny_comp_letGo (cenv := { ce with scope := relabel scope env }) hk _ s' m loc ns fun h' m' _ sb => wpAny_mono (go h' sb) (fun _ _ z => z.elim) fun _ _ z => z))
end
theorem ns_up {h h' : Heap} {C : Addr} {m : Str → Option Value} (up : h.UpToSlots h') (n : h.Ns C m) : h'.Ns C m := by
  obtain ⟨o, es, ep, e, d, r⟩ := n
  obtain ⟨sl, e'⟩ := up C o e fun vs z => by rw [d] at z; cases z
  exact ⟨_, es, ep, e', d, r⟩
theorem note_frame {x : Value} {e1 e2 : Env} (h : e1.frame = e2.frame) : noteFrame x e1 = noteFrame x e2 := by
  unfold noteFrame PySem.frameOf; rw [h]
theorem frames_to {h h' B B' : Heap} : ∀ {l : List Env}, h.FunFrames B l → (∀ L ∈ frs l, h'.get? L = h.get? L ∧ (B.get? L = none → B'.get? L = none)) → h'.FunFrames B' l
  | [], _, _ => trivial
  | env :: l, f, k => by
    obtain ⟨hk, ⟨L, o, ef, nb, eo, nf⟩, r⟩ := f
    have hL : L ∈ frs (env :: l) := List.mem_filterMap.mpr ⟨env, List.mem_cons_self, ef⟩
    refine ⟨hk, ⟨L, o, ef, (k L hL).2 nb, (k L hL).1.trans eo, nf⟩, frames_to r fun b hb => k b ?_⟩
    obtain ⟨e', m, q⟩ := List.mem_filterMap.mp hb
    exact List.mem_filterMap.mpr ⟨e', List.mem_cons_of_mem _ m, q⟩
section
variable {X : Cx} {W : WX} {u : Value} {s : Shared}
/-- in the air of X, noted by its frame -/
def XH (X : Cx) (W : WX) (u : Value) (s' : Shared) : Prop :=
  ∃ (a : Addr) (B : Heap) (sI : Shared) (pins : List (Addr × Obj)) (σ : L2.St) (H : Hp) (cls : Value) (d : Option Addr), u = .ref a ∧ Inv X pins σ H sI ∧ (∀ b o, sI.heap.get? b = some o → b ∉ frs X.stack → B.get? b = some o) ∧ sI.heap.UpToSlots s'.heap ∧
    HandSPX.HeldZ B X.stack a (Zc cls d) X.env.locals s'.heap ∧ H a = none ∧ s'.os = sI.os ∧ AllBare s'.gens ∧ W cls d σ H
theorem XH.air (x : XH X W u s) : XE X W u s := by
  obtain ⟨a, B, sI, pins, σ, H, cls, d, e, I, nb, up, sky, r⟩ := x
  exact ⟨a, B, sI, pins, σ, H, cls, d, e, I, nb, up, .inr (.inr sky), r⟩
theorem XE.noted (hs : X.stack = X.env :: X.outer) (hf : X.env.frame = some X.env.locals) (x : XE X W u s) {E : Value → Shared → Prop} {Q : Unit → Shared → Prop} (k : ∀ h', s.heap.UpToSlots h' → XH X W u { s with heap := h' } → Q () { s with heap := h' }) :
    wpAny (model X.prog X.w) X.A (noteFrame u X.env) Q E s := by
  obtain ⟨a, B, sI, pins, σ, H, cls, d, rfl, I, nb, up, sky, na, os, ag, w⟩ := x
  have hfr : X.A.frames = some (X.env :: X.outer) := by rw [I.ok.frames, hs]
  have fin : ∀ h', HandSPX.HeldZ B (X.env :: X.outer) a (Zc cls d) X.env.locals h' → s.heap.UpToSlots h' → Q () { s with heap := h' } := fun h' hh up' =>
    k h' up' ⟨a, B, sI, pins, σ, H, cls, d, rfl, I, nb, up.trans up', by rw [hs]; exact hh, na, os, ag, w⟩
  rw [hs] at sky
  rcases sky with ⟨hB, hn, hl, oe, vs, he, hz, hd, h1⟩ | fl | hh
  · exact HandSPX.look_newZ Zc.steady hfr hl hf he hB hn hd h1 hz fin
  · exact HandSPX.looks_onZ Zc.steady hfr hf fl fin
  · exact HandSPX.againZ hf hh.2.2.2 (fin s.heap hh (Heap.UpToSlots.refl _))
/-- a namespace that nobody tracks changes -/
theorem XH.off {C : Addr} {h' : Heap} {m : Str → Option Value} (x : XH X (fun c d σ H => W c d σ H ∧ H C = none) u s) (ns : s.heap.Ns C m) (sb : Heap.SameBut C s.heap h') (c1 : C ≠ X.env.locals) (c2 : X.s_0.heap.objs.size ≤ C)
    (c3 : ∀ x c, X.env.cells.lookup x = some c → c ≠ C) (c4 : ∀ p ∈ X.pn, p.1 ≠ C) (c5 : C ∉ frs X.stack) : XH X W u { s with heap := h' } := by
  obtain ⟨a, B, sI, pins, σ, H, cls, d, rfl, I, nb, up, ⟨st, an, fr, oe, vs, t, ot, ts, ea, hz, ed, e1, nt, nta, et, edt, e3⟩, na, os, ag, w, hC⟩ := x
  have I0 : Inv X [] σ H sI := ⟨I.ok, I.os, I.bare, I.base, I.loc, I.cell, I.free, I.freeC, fun p hp => I.pin p (List.mem_append_left _ (by simpa using hp)), I.hok, I.len⟩
  obtain ⟨G, g1, g2⟩ := L2.restrict sI.heap fun b => decide (b ≠ C)
  obtain ⟨D, d1, d2⟩ := L2.restrict B fun b => decide (b ≠ C)
  have inG : ∀ b o, G.get? b = some o → sI.heap.get? b = some o ∧ b ≠ C := fun b o e => by
    by_cases hb : b = C
    · rw [g2 b (by simp [hb])] at e; cases e
    · exact ⟨(g1 b (by simp [hb])).symm.trans e, hb⟩
  have inD : ∀ b o, D.get? b = some o → B.get? b = some o ∧ b ≠ C := fun b o e => by
    by_cases hb : b = C
    · rw [d2 b (by simp [hb])] at e; cases e
    · exact ⟨(d1 b (by simp [hb])).symm.trans e, hb⟩
  have offD : ∀ b, B.get? b = none → D.get? b = none := fun b e => by
    cases q : D.get? b with
    | none => rfl
    | some o => rw [(inD b o q).1] at e; cases e
  have dat : ∀ b o vs, s.heap.get? b = some o → o.data = .fields vs → b ≠ C := fun b o vs e f z => by
    obtain ⟨o', es, ep, e', f', _⟩ := ns
    rw [z, e'] at e; cases e
    rw [f'] at f; cases f
  have I1 : Inv X [] σ H { sI with heap := G } := I0.turned (t' := sI.toks) (it := C) (fun b o hb e => (g1 b (by simp [hb])).trans e) hC c1 (.inr c2) c3 (by simpa using c4)
  refine ⟨a, D, { sI with heap := G }, [], σ, H, cls, d, rfl, I1, fun b o e hb => ?_, fun b o e nf => ?_, ⟨fun b o e => ?_, offD a an, ?_, oe, vs, t, ot, ts, ?_, hz, ed, e1, offD t nt, nta, ?_, edt, e3⟩, na, os, ag, w⟩
  · obtain ⟨e', hbC⟩ := inG b o e
    exact (d1 b (by simp [hbC])).trans (nb b o e' hb)
  · obtain ⟨e', hbC⟩ := inG b o e
    obtain ⟨sl, e2⟩ := up b o e' nf
    exact ⟨sl, (sb.2 b hbC).trans e2⟩
  · obtain ⟨e', hbC⟩ := inD b o e
    exact (sb.2 b hbC).trans (st b o e')
  · exact frames_to fr fun L hL => ⟨sb.2 L fun z => c5 (z ▸ hL), offD L⟩
  · exact (sb.2 a (dat a oe vs ea ed)).trans ea
  · exact (sb.2 t (dat t ot ts et edt)).trans et
/-- it is passed on -/
theorem XH.on {what : String} {ce : Env} (x : XH X W u s) (hc : ce.frame = some X.env.locals) (tk : Takes X W) : wpAny (model X.prog X.w) X.A (PySem.passOn what u ce : Sem Value) (fun _ _ => False) X.xe s := by
  obtain ⟨a, B, sI, pins, σ, H, cls, d, rfl, I, nb, up, ⟨st, an, fr, tr⟩, na, os, ag, w⟩ := x
  have tr' := tr
  obtain ⟨oe, vs, t, ot, ts, ea, hz, ed, e1, r⟩ := tr'
  unfold PySem.passOn
  refine wpAny_bind (wpAny_field ea ed e1 ?_)
  rw [if_neg (show ¬ ((Value.ref t == Value.none) = true) from by simp)]
  rw [hc]
  refine wpAny_bind (HandSPX.setFlight_anyZ st fr tr fun h' k1 k2 k3 k4 => wpAny_throw (tk _ _ ?_))
  exact ⟨a, B, sI, pins, σ, H, cls, d, rfl, I, nb, up.trans k4, .inr (.inr ⟨k1, an, k2, k3⟩), na, os, ag, w⟩
end
/-- [elt for tg in iter], an item may raise what E says -/
theorem pe_lcX {X : Cx} {elt tg iter : Expr} {scope : Scope} {own : List (Str × Nat)} {pos : Pos} {wi : TI} {g : TG} {te : TE} {E : XK} (hc : X.calm = true) (hN : X.N.Nodup) (hs : X.stack = X.env :: X.outer) (hf : X.env.frame = some X.env.locals)
    (tk : Takes X fun c d _ H => E c d H) (hi : PI X tg iter wi) (ok : BlkOk X.N X.env.scope scope own)
    (hg : ∀ (s : Shared) (H : Hp) (C : Addr) (cl : List (Str × Addr)) (fp : List Addr), PG (X.blk s H scope (compEnvC scope cl C X.env) fp) tg g)
    (he : ∀ (s : Shared) (H : Hp) (C : Addr) (cl : List (Str × Addr)) (fp : List Addr) (xe : Value → Shared → Prop), Passes (L2.CX X.prog X.w) ((X.blk s H scope (compEnvC scope cl C X.env) fp).wish xe) E → PE ((X.blk s H scope (compEnvC scope cl C X.env) fp).wish xe) elt te)
    (fs : ∀ x, foldedSetIterable iter X.env x = pure x := by intro _; rfl) : PE X (.ListComp elt [⟨tg, iter, [], 0⟩] scope pos) (tLc wi g tYes te (own.map (·.2))) := by
  refine ⟨fun pins s σ H Q I h => ?_⟩
  rw [eval_ListComp]
  have cells : ∀ y ∈ scope.names, y.2 = .free → ∃ c, X.env.cells.lookup y.1 = some c := fun y hy e => (ok.free y hy e).elim (fun k => I.ok.has _ (.inl k)) fun k => I.ok.has _ (.inr k)
  refine comp_either rfl fs (closure_ok cells) ok.kind (fun y hy e => by rw [ok.uniq y hy, e]) (thn (hi.run pins s σ H _ I h) fun xv s1 hx => thn hx fun itv s2 h2 => ?_)
  obtain ⟨it, fp, tn, J, H2, e, I2, T, st2, f2, q⟩ := h2
  subst e
  refine wpAny_newObj_type (newEnv_comp ?_) (by show 0 ≤ sizeLine; decide)
  -- the new list at D, the block's names at C
  have hDn : H2 s2.heap.objs.size = none := I2.hok.fresh (Nat.le_refl _)
  obtain ⟨W, ⟨m0, w0⟩, turn⟩ := q s2.heap.objs.size hDn
  have lay : ObjOk X.prog X.w (upd H2 s2.heap.objs.size (.lst [])) (s2.heap.push { cls := .type "list", data := .seq ([] : List Value).toArray }) s2.heap.objs.size (.lst []) := ⟨Nat.zero_le _, [], 0, .nil, Heap.get?_push_size _ rfl⟩
  have I3 : Inv X pins σ (upd H2 s2.heap.objs.size (.lst [])) { s2 with heap := s2.heap.push { cls := .type "list", data := .seq ([] : List Value).toArray } } := I2.laid (t' := s2.toks) (fun b o z => Heap.get?_push_of_some _ z) (Nat.le_refl _) lay
  have small : ∀ b ∈ fp, b < s2.heap.objs.size := fun b hb => by
    obtain ⟨o, z, _⟩ := T.obj _ _ st2 b hb
    exact Heap.lt_size z
  have f3 : ∀ b ∈ fp, FpOk X pins (upd H2 s2.heap.objs.size (.lst [])) b ∧ b < ({ s2 with heap := s2.heap.push { cls := .type "list", data := .seq ([] : List Value).toArray } } : Shared).heap.objs.size := fun b hb => by
    refine ⟨⟨?_, (f2 b hb).2⟩, ?_⟩
    · rw [upd_ne (Nat.ne_of_lt (small b hb))]; exact (f2 b hb).1
    · show b < (s2.heap.push _).objs.size
      rw [Heap.size_push]; exact Nat.lt_succ_of_lt (small b hb)
  have st3 : tn 0 (s2.heap.push { cls := .type "list", data := .seq ([] : List Value).toArray }) := T.keep _ _ _ st2 fun b _ o z => Heap.get?_push_of_some _ z
  generalize s2.heap.objs.size = D at *
  generalize hs3 : ({ s2 with heap := s2.heap.push { cls := .type "list", data := .seq ([] : List Value).toArray } } : Shared) = s3 at *
  have st3 : tn 0 s3.heap := by rw [← hs3]; exact st3
  have I4 := block_start I3 ok hN f3
  generalize hH3 : upd H2 D (.lst []) = H3 at *
  generalize hcl : cellsFrom (s3.heap.objs.size + 1) scope.names (cloFrom X.env.cells scope.names []) = cl at *
  have pg := hg s3 H3 s3.heap.objs.size cl fp
  have pe := he s3 H3 s3.heap.objs.size cl fp
  have cf : (compEnvC scope cl s3.heap.objs.size X.env).frame = X.env.frame := rfl
  have cL : (compEnvC scope cl s3.heap.objs.size X.env).locals = s3.heap.objs.size := rfl
  show codeAny _ _ (.compStart (.ListComp elt [⟨tg, iter, [], 0⟩] scope pos) 0 (.ref it) (.ref D) (compEnvC scope cl s3.heap.objs.size X.env)) (fun r s' => ∃ m, s'.heap.Ns s3.heap.objs.size m ∧ ∀ h', Heap.SameBut s3.heap.objs.size s'.heap h' →
    match r with | .ok _ => EP X pins σ Q (.ref D) { s' with heap := h' } | .error x => wpAny (model X.prog X.w) X.A (PySem.passOn "comprehension.variables-let-go" x (compEnvC scope cl s3.heap.objs.size X.env) : Sem Value) (fun _ _ => False) X.xe { s' with heap := h' }) { s3 with heap := pushCells (s3.heap.push { cls := .type "dict", data := .dict #[] }) scope.names }
  generalize compEnvC scope cl s3.heap.objs.size X.env = ce at *
  generalize hR : (fun (r : Result) (s' : Shared) => ∃ m, s'.heap.Ns s3.heap.objs.size m ∧ ∀ h', Heap.SameBut s3.heap.objs.size s'.heap h' →
    match r with | .ok _ => EP X pins σ Q (.ref D) { s' with heap := h' } | .error x => wpAny (model X.prog X.w) X.A (PySem.passOn "comprehension.variables-let-go" x ce : Sem Value) (fun _ _ => False) X.xe { s' with heap := h' }) = R
  generalize hs4 : ({ s3 with heap := pushCells (s3.heap.push { cls := .type "dict", data := .dict #[] }) scope.names } : Shared) = s4 at *
  have st4 : tn 0 s4.heap := T.keep _ _ _ st3 fun b _ o z => by rw [← hs4]; exact pushCells_keeps _ _ _ _ (Heap.get?_push_of_some _ z)
  have nfp : ∀ b ∈ fp, H3 b = none := fun b hb => (f3 b hb).1.1
  have stat : ∀ {σ' : L2.St} {H' : Hp} {s' : Shared}, Inv (X.blk s3 H3 scope ce fp) [] σ' H' s' → (∀ b ∈ fp, H' b = none) → ∀ b ∈ fp, FpOk (X.blk s3 H3 scope ce fp) [] H' b := fun {σ' H' s'} J hn b hb =>
    ⟨hn b hb, (J.ok.exf b hb).1, J.ok.exfs b hb, .inl hb, fun x c z => (J.ok.exf b hb).2 x c z, fun p hp => absurd (show p ∈ ([] : List (Addr × Obj)) ++ [] from hp) (by simp)⟩
  -- what the block leaves, in the def's own context
  have back : ∀ {pins' : List (Addr × Obj)} {σ' : L2.St} {H' : Hp} {s' : Shared}, Inv (X.blk s3 H3 scope ce fp) pins' σ' H' s' → Inv X pins σ H' s' ∧ (∃ m, s'.heap.Ns s3.heap.objs.size m) ∧ FpOk X pins H' s3.heap.objs.size := fun {pins' σ' H' s'} J => by
    have nC : H' s3.heap.objs.size = none := cL ▸ (J.free : H' ce.locals = none)
    obtain ⟨m, ns, _⟩ := J.loc
    refine ⟨I3.call' (ch := fp) J.os J.base J.hok J.bare fun b hb => ?_, ⟨m, cL ▸ (ns : s'.heap.Ns ce.locals m)⟩, I3.fpOk (Nat.le_refl _) nC⟩
    obtain ⟨_, b1, _, b3, b4, b5⟩ := (f3 b hb).1
    exact ⟨b3, b1, b4, b5⟩
  have frX : frs X.stack = X.env.locals :: X.fs := by rw [hs]; show frs (X.env :: X.outer) = _; unfold frs; rw [List.filterMap_cons, hf]; rfl
  have loop : codeAny (model X.prog X.w) X.A (.compLoop (.ListComp elt [⟨tg, iter, [], 0⟩] scope pos) 0 (.ref it) (.ref D) ce) R s4 := by
    refine compLoop_any (fun n s' => ∃ i H', Inv (X.blk s3 H3 scope ce fp) [] (wipe σ (own.map (·.2))) H' s' ∧ tn i s'.heap ∧ (∀ b ∈ fp, H' b = none) ∧ W i n H') ?_ m0 ⟨0, H3, I4, st4, nfp, w0⟩
    rintro n s5 ⟨i, H5, I5, st5, n5, w5⟩
    rcases turn i n H5 w5 with ⟨stop, qq⟩ | ⟨go, Nx, hNx, step⟩
    · refine thnF (T.done (X.blk s3 H3 scope ce fp) rfl rfl rfl hc i [] s5 _ H5 (fun _ _ => False) I5 (stat I5 n5) st5 stop) fun r s6 ⟨hr, I6⟩ => ?_
      subst hr
      obtain ⟨I7, ⟨m, ns⟩, _, b1, _, b3, b4, b5⟩ := back I6
      obtain ⟨nC, _⟩ := (back I6).2.2
      rw [← hR]
      exact ⟨m, ns, fun h' sb => ⟨.ref D, H5, I7.turned (t' := s6.toks) (fun b o hb z => (sb.2 b hb).trans z) nC b1 b3 b4 b5, rfl, qq⟩⟩
    refine thnF (T.item (X.blk s3 H3 scope ce fp) rfl rfl rfl hc i [] s5 _ H5 (fun _ _ => False) I5 (stat I5 n5) st5 go) fun r s6 ⟨u, hr, h6⟩ => ?_
    subst hr
    refine thnF h6 fun _ s7 ⟨x, H7, I7, r7, y7, st7, n7⟩ => ?_
    refine thnF (pg.run _ s7 _ H7 x u _ (I7.pinned (stat I7 n7) (T.obj _ _ st7)) r7 (step x H7 y7)) fun _ s8 ⟨σ8, H8, I8, hw8, q8⟩ => ?_
    refine thnF ((pts_nil (X := X.blk s3 H3 scope ce fp)).run _ s8 σ8 H8 _ I8 q8) fun b s9 ⟨H9, I9, q9⟩ => ?_
    have fin : ∀ {s' : Shared} {H' : Hp}, Inv (X.blk s3 H3 scope ce fp) ([] ++ pinsAt fp s7.heap) σ8 H' s' → Nx H' → ∃ m, m < n ∧ ∃ i H', Inv (X.blk s3 H3 scope ce fp) [] (wipe σ (own.map (·.2))) H' s' ∧ tn i s'.heap ∧ (∀ b ∈ fp, H' b = none) ∧ W i m H' := fun {s' H'} J nx => by
      obtain ⟨m', lt, w'⟩ := hNx H' nx
      have kept : ∀ b ∈ fp, ∀ o, s7.heap.get? b = some o → s'.heap.get? b = some o ∧ H' b = none := fun b hb o z => by
        have p := J.pin (b, o) (List.mem_append_right _ (List.mem_append_right _ (mem_pinsAt hb z)))
        exact ⟨p.1, p.2.1⟩
      have ln : (wipe σ (own.map (·.2))).length = σ8.length := by rw [← hw8, wipe_length]
      refine ⟨m', lt, i + 1, H', (J.unpinned (pins := [])).weak ln fun j v z => ?_, T.keep _ _ _ st7 fun b hb o z => (kept b hb o z).1, fun b hb => ?_, w'⟩
      · rw [← hw8] at z
        exact (wipe_some z).1
      · obtain ⟨o, z, _⟩ := T.obj _ _ st7 b hb
        exact (kept b hb o z).2
    cases b with
    | false =>
      rw [if_neg Bool.false_ne_true] at q9 ⊢
      exact fin I9 q9
    | true =>
      rw [if_pos rfl] at q9 ⊢
      have run := (pe (fun v s' => ∃ pins' σ' H' s0, Inv (X.blk s3 H3 scope ce fp) pins' σ' H' s0 ∧ L2.CX X.prog X.w X.stack H' s0 E v s') fun pins' σ' H' s0 v s' J c => ⟨pins', σ', H', s0, J.unwish, c⟩).run _ s9 σ8 H9 _ (I9.wish _) q9
      refine wpAny_mono run (fun z s10 ⟨yv, H10, J10, r10, acc, hD10, hz10, nx⟩ => ?_) fun v s' ⟨pins', σ', H', s0, J, c⟩ => ?_
      · exact wpAny_mono (app_ok (X := X.blk s3 H3 scope ce fp) (E := fun _ _ => False) J10.unwish hD10 hz10 r10 fun s11 I11 => fin I11 nx) (fun _ _ z => z) fun _ _ z => z.elim
      · obtain ⟨IX, ⟨m, ns0⟩, nC, b1, b2, b3, b4, b5⟩ := back J
        have notF : s3.heap.objs.size ∉ frs X.stack := by rw [frX]; intro z; rcases List.mem_cons.mp z with z | z; exact b1 z; exact b2 z
        obtain ⟨a, B, H'', cls, d, eu, fl, hok, ub, na, os, ag, hE⟩ := c
        have ns1 : s'.heap.Ns s3.heap.objs.size m := by
          obtain ⟨o, es, ep, eo, r⟩ := ns0
          exact ⟨o, es, ep, fl.1 _ _ (ub.keep _ o eo nC notF), r⟩
        have nC2 : H'' s3.heap.objs.size = none := by
          obtain ⟨o, es, ep, eo, r⟩ := ns0
          exact ub.free _ o eo nC
        have air : XE X (fun c d _ H => E c d H ∧ H s3.heap.objs.size = none) v s' := XE.of_call (E := fun c d H => E c d H ∧ H s3.heap.objs.size = none) IX (fun _ _ _ z => z) ⟨a, B, H'', cls, d, eu, fl, hok, ub, na, os, ag, hE, nC2⟩
        show wpAny _ _ (noteFrame v ce) _ _ _
        rw [note_frame cf, ← hR]
        exact XE.noted hs hf air fun h' up xh => ⟨m, ns_up up ns1, fun h2 sb => (xh.off (W := fun c d _ H => E c d H) (ns_up up ns1) sb b1 I3.sz b4 (fun p hp => b5 p (List.mem_append_left _ hp)) notF).on (cf.trans hf) tk⟩
  exact codeAny_compStart_list loop (T.self X.A 0 _ _ _ st4 loop)
end My

/-! Kit5 -/
namespace My
open PySem PySem.Spec PyProof.Rows L2
/-- o.m(..), what it may let out told at the slots -/
def tMethS (C : Addr) (m : Str) (sp : Sp) (E : L2.St → XK) (ta : TE) (t : TA) : TE := fun σ H Q => ta σ H fun x H1 => ∃ a dx fs, x = .ref a ∧ H1 a = some (.ins C dx fs) ∧ fs.lookup m = none ∧ t σ H1 fun vs H2 => sp (.ref a :: vs) H2 Q (E σ)
theorem pe_methS {X : Cx} {CX : CXT} {k : Nat} {f C : Addr} {fd : FuncData} {ps : List Str} {sp : Sp} {E : L2.St → XK} {m : Str} {pos apos : Pos} {o e : Expr} {es : List Expr} {ta : TE} {t : TA} {pl : Sem Bool} (he : PE X o ta) (c : Cls X.K C) (hm : Meth X.K C m f) (F : FnOk X.prog X.w X.K X.mg X.base CX k f fd ps sp) (hr : Room k X.A) (hb : Binds X.K fd ps []) (hx : ∀ σ, PassesAt CX X σ (E σ)) (ha : PA X (e :: es) t)
    (hst : starEach (e :: es) X.env = (false, eval e X.env) :: starEach es X.env := by rfl) (hpl : (backTo pos (starEach es X.env)).any (·.1) = false := by rfl)
    (ht : eval (.Call (.Attribute o m apos) (e :: es) [] pos) X.env = (do
      let ov ← eval o X.env; standAt apos.atName
      let (f, first) ← holding [ov] (getMethod ov m pl); callWith pos f first (backTo pos (starEach (e :: es) X.env)) (backToKw pos (keywordEach [] X.env))) := by rfl) :
    PE X (.Call (.Attribute o m apos) (e :: es) [] pos) (tMethS C m sp E ta t) := by
  refine ⟨fun pins s σ H Q I h => PySem.W.methodCall_KW (pl := pl) (thn (he.run pins s σ H _ I h) fun u s1 ⟨x, H1, I1, rx, a, dx, fs, ex, ea, l, q⟩ => ?_) ht⟩
  subst ex
  obtain rfl : u = Value.ref a := rx
  refine getmeth_ok I1 ea c hm l ?_
  exact PySem.W.callWith_K (first := [.ref a]) (h₀ := X.base) I.ok.mod.kin hm.kp (thn (ha.run pos pins s1 σ H1 _ I1 q) fun us s2 ⟨vs, H2, I2, r, q2⟩ => ⟨I2.kIn, run_fnS (us := .ref a :: us) (vs := .ref a :: vs) F hr hb (hx σ) I2 (.cons rfl r) q2⟩) hst hpl
/-- what an exception's __init__ leaves: the dict alone -/
theorem del_init {H : Hp} {a dx : Addr} {o o2 o3 o4 : HO} (ha : H a = none) (hne : dx ≠ a) : upd (del (upd (upd (upd H a o) dx o2) a o3) a) dx o4 = upd H dx o4 := by
  funext b
  by_cases h1 : b = dx
  · subst h1; rw [upd_same, upd_same]
  · rw [upd_ne h1, upd_ne h1]
    by_cases h2 : b = a
    · subst h2; rw [del_same, ha]
    · rw [del_ne h2, upd_ne h2, upd_ne h1, upd_ne h2]
/-- self.f = v in the __init__ of an exception -/
def sp_exinit (C : Addr) (f : Str) : Sp := fun vs H Q _ => ∃ (a : Addr) (v : V), vs = [.ref a, v] ∧ H a = some (exo a C none) ∧ ∀ dx, H dx = none → dx ≠ a → Q .non (upd (upd H dx (exd dx [(f, v)])) a (exo a C (some dx)))
theorem sp_exinit_len {C : Addr} {f : Str} {vs H Q E} (h : sp_exinit C f vs H Q E) : vs.length = 2 := by obtain ⟨_, _, rfl, _⟩ := h; rfl
/-- raise C(v): what the def's own way out must bear -/
theorem raiseE {C : Addr} {f : Str} {H : Hp} {v : V} {Q : XK} {R : XK} (k : ∀ d, H d = none → Q (.ref C) (some d) (upd H d (.xd [(f, v)]))) : ([v] : List V).length ≤ 1000 ∧ ∀ a, H a = none → sp_exinit C f (.ref a :: [v]) (upd H a (exo a C none))
    (fun u H2 => u = .non ∧ ∃ (d : Addr) (fs : List (Str × V)), H2 a = some (exo a C (some d)) ∧ H2 d = some (exd d fs) ∧ H d = none ∧ Q (.ref C) (some d) (upd (del H2 a) d (.xd fs))) R := by
  refine ⟨by show 1 ≤ 1000; decide, fun a ha => ⟨a, v, rfl, upd_same, fun dx hdx hne => ⟨rfl, dx, [(f, v)], upd_same, ?_, ?_, ?_⟩⟩⟩
  · rw [upd_ne hne, upd_same]
  · rw [upd_ne hne] at hdx; exact hdx
  · rw [del_init ha hne]
    rw [upd_ne hne] at hdx
    exact k dx hdx
/-- over a list or a tuple that stands at a name -/
def iSeq (i : Nat) : TI := fun σ H R => ∃ (a : Addr) (ys : List V), σ[i]? = some (some (.ref a)) ∧ (H a = some (.lst ys) ∨ H a = some (.tup ys)) ∧ ∀ (J : It) (G : Hp → Prop), Walk J ys.length G (YAt ys) → (∀ H' : Hp, H' a = H a → G H') → R J H
theorem pi_seq {X : Cx} {tg : Expr} (i : Nat) {x : Str} {pos : Pos} (hN : X.N[i]? = some x := by rfl) (hv : Vis X.env.scope x := by first | exact Or.inl rfl | exact Or.inr (Or.inl rfl) | exact Or.inr (Or.inr rfl)) (hd : (x == ("__debug__" : Str)) = false := by decide)
    (hcd : (x == ("__classdict__" : Str)) = false := by decide) : PI X tg (.Name x pos) (iSeq i) := by
  refine ⟨fun pins s σ H R I ⟨a, ys, e, h, k⟩ => ?_⟩
  rcases h with h | h
  · exact (pi_list (pv i hN hv hd hcd)).run pins s σ H R I ⟨_, e, a, rfl, ⟨ys, SqL.of h⟩, k _ _ walk_list fun H' q => SqL.of (q.trans h)⟩
  · exact (pi_tup (pv i hN hv hd hcd)).run pins s σ H R I ⟨_, e, a, rfl, ⟨ys, SqT.of h⟩, k _ _ walk_tup fun H' q => SqT.of (q.trans h)⟩
/-- isinstance(x, (list, tuple)) -/
theorem k_il : kitB "int" "list" = some false := by decide +kernel
theorem k_it : kitB "int" "tuple" = some false := by decide +kernel
theorem k_bl' : kitB "bool" "list" = some false := by decide +kernel
theorem k_bt : kitB "bool" "tuple" = some false := by decide +kernel
def Row (H : Hp) (a : Addr) (ys : List V) : Prop := H a = some (.lst ys) ∨ H a = some (.tup ys)
theorem Row.news {H H' : Hp} {a : Addr} {ys : List V} (h : Row H a ys) (s : Same H H') : Row H' a ys := h.elim (fun z => .inl (s _ _ z)) fun z => .inr (s _ _ z)
theorem Row.eq {H H' : Hp} {a : Addr} {ys : List V} (h : Row H a ys) (s : Same H H') : H' a = H a := by
  rcases h with z | z
  · rw [z]; exact s _ _ z
  · rw [z]; exact s _ _ z
end My

/-! Kit6 -/
/-! sorted(d), its keys ints, any number of them -/
namespace My
open PySem PySem.Spec PyProof.Rows L2
theorem keys_ints {us : List Value} {ks : List Int} {vs : List (Key × Value)} (hl : us.length = vs.length) (hk : vs.map (·.1) = ks.map Sum.inl)
    (h : ∀ (j : Nat) (v : Value), us[j]? = some v → ∃ (k : Key) (x : Value), vs[j]? = some (k, x) ∧ keyIs k v = true) : IntsAre us ks := by
  have e := keys_at hl h
  have e2 : (vs.map fun p => kV p.1) = ks.map V.int := by
    have := congrArg (List.map kV) hk
    rw [List.map_map, List.map_map] at this
    exact this
  rw [e2] at e
  exact e.ints
/-- a list of ints that was laid just now is sorted -/
theorem sort_fresh {X : Cx} {pins : List (Addr × Obj)} {σ : L2.St} {H : Hp} {s : Shared} {A : Around} {E : Value → Shared → Prop} {R : PySem.Fin → Shared → Prop} {vs : List Value} {ks : List Int} (I : Inv X pins σ H s) (hi : IntsAre vs ks) (hz : vs.length ≤ sizeLine)
    (k : ∀ (ys : List Int) (s' : Shared), ys.Perm ks → ys.Pairwise (· ≤ ·) → H s.heap.objs.size = none → Inv X pins σ (upd H s.heap.objs.size (.lst (ys.map V.int))) s' → R (.done (.ret .none)) s') :
    wpAny (model X.prog X.w) A (Builtin.«list.sort» ⟨[.ref s.heap.objs.size], []⟩) R E { s with heap := s.heap.push (seqObj "list" vs.toArray 0) } := by
  have ho : (s.heap.push (seqObj "list" vs.toArray 0)).get? s.heap.objs.size = some (seqObj "list" vs.toArray 0) := Heap.get?_push_size _ rfl
  refine SrtO.list_sort_ord (s := { s with heap := s.heap.push (seqObj "list" vs.toArray 0) }) SrtO.swo_int ho hz (fun h2 => SrtO.ints_sortable hi h2) fun out h1 h2 => ?_
  obtain ⟨k1, k2, k3⟩ := SrtO.ints_out hi h1 h2
  obtain ⟨ep, he⟩ := PyProof.Rows.sortedHeap_at (vs := vs) (out := out.toArray) ho
  have hn : ks.length = vs.length := by rw [← SrtO.iv_ints hi, List.length_map]
  have hlen : ((out.map SrtO.iv).map V.int).length ≤ sizeLine := by
    rw [List.length_map, k2.length_eq, hn]; exact hz
  refine k _ _ k2 k3 (I.hok.fresh (Nat.le_refl _)) (I.laid (t' := s.toks) (fun b u e => ?_) (Nat.le_refl _) (show ObjOk X.prog X.w _ _ _ (.lst ((out.map SrtO.iv).map V.int)) from ⟨hlen, out, ep, vals_of_ints k1, he⟩))
  have hb : b < s.heap.objs.size := Heap.lt_size e
  rw [PyProof.Rows.sortedHeap_old (Nat.ne_of_lt hb) (by rw [size_push']; exact Nat.lt_succ_of_lt hb)]
  exact Heap.get?_push_of_some _ e
theorem cr_sortedDA {X : Cx} (hcalm : X.calm = true) : CallR X (.builtin "sorted") (fun xs H Q => ∃ (a : Addr) (kvs : List (Key × V)) (ks : List Int), xs = [.ref a] ∧ Rd H a (.dK kvs) ∧ kvs.map (·.1) = ks.map Sum.inl ∧ ks.length ≤ sizeLine ∧
    ∀ (ys : List Int) (p : Addr), ys.Perm ks → ys.Pairwise (· ≤ ·) → H p = none → Q (.ref p) (upd H p (.lst (ys.map V.int)))) := by
  rintro pins s σ H xs us Q I r ⟨a, kvs, ks, rfl, hd, hks, hz, q⟩
  obtain ⟨u, rfl, rx⟩ := vals1 r
  cases rx
  obtain ⟨z, lo, vs, rel, dd⟩ := dk_rd I.hok hd
  obtain ⟨ep, hat⟩ := dd.dictAt
  have hkeys := rel.keys.symm.trans hks
  have hl : vs.length = ks.length := by simpa using congrArg List.length hkeys
  refine Calls.call_function_entry PyProof.Rows.kind_sorted PyProof.Rows.plain_sorted PyProof.Rows.entry_sorted (PyProof.Rows.args_sorted1 _) ?_
  unfold Builtin.«sorted»
  refine wpAny_bind (m := checkCount "sorted" 1 1 _) (wpAny_pure ?_)
  refine wpAny_bind (PySem.W.kdu_collect (A := X.A.in1) (PySem.W.kdl_dict (knd := mixKind X.prog X.w) (kvs := vs) (ep := ep) lo) (I.ok.hd hcalm) hat (by omega) fun h' tk acc hk hacc => ?_)
  have hal : acc.toList.length = vs.length := by rw [Array.length_toList, hacc.1]
  have hI := keys_ints hal hkeys fun j v e => hacc.2 j v (by rw [← Array.getElem?_toList]; exact e)
  have I1 : Inv X pins σ H { s with heap := h', toks := tk } := I.kept hk
  refine wpAny_bind (wpAny_newList ?_ (by omega))
  have hoL : (h'.push (seqObj "list" acc.toList.toArray 0)).get? h'.objs.size = some (seqObj "list" acc.toList.toArray 0) := Heap.get?_push_size _ rfl
  show wpAny _ _ _ _ _ { s with heap := h'.push (seqObj "list" acc.toList.toArray 0), toks := tk }
  refine wpAny_bind (wpAny_holding (wpAny_call_entry PyProof.Rows.slot_list_sort ⟨_, hoL, rfl⟩ PyProof.Rows.entry_list_sort (sort_fresh I1 hI (by omega) fun ys s' g1 g2 g3 J => ⟨_, rfl, ?_⟩) (PyProof.Rows.args_list_sort _)))
  exact wpAny_pure ⟨_, rfl, .ref _, _, J, rfl, q ys _ g1 g2 g3⟩
end My

/-! Kit7 -/
/-! several except clauses, some of them with a name -/
namespace My
open PySem PySem.Spec PyProof.Rows L2
abbrev TSX := Addr → Value → Option Addr → TS
/-- the ends of a suite whose name is at slot o, and the slots within -/
def outD (o : Option Nat) (D : Ends) : Ends := match o with | none => D | some i => { nx := fun σ' H' => D.nx (σ'.set i none) H', rt := D.rt, bk := fun σ' H' => D.bk (σ'.set i none) H', ct := fun σ' H' => D.ct (σ'.set i none) H' }
def inS (o : Option Nat) (a : Addr) (σ : L2.St) : L2.St := match o with | none => σ | some i => σ.set i (some (.ref a))
def wMix (K : PySem.W.Frag) (Wout : WX) (D : Ends) : List (Option Nat × Value × TSX) → WX
  | [] => Wout
  | (o, c, ts) :: r => fun cls d σ H => ∃ b, PySem.W.exmOne K cls c = some b ∧ (b = true → ∀ a, H a = none → ts a cls d (outD o D) (inS o a σ) H) ∧ (b = false → wMix K Wout D r cls d σ H)
/-- the name of a clause stands at its slot -/
def AtSlot (X : Cx) (o : Option Nat) (nm : Option Str) : Prop := match o, nm with
  | none, none => True
  | some i, some n => X.N[i]? = some n ∧ X.env.kindOf n = some .local
  | _, _ => False
inductive HdM (X : Cx) : List ExceptHandler → List (Option Nat × Value × TSX) → Prop
  | nil : HdM X [] []
  | cons {x : Str} {o : Option Nat} {nm : Option Str} {c : Value} {ts : TSX} {b₀ : Stmt} {suite : List Stmt} {np pos' : Pos} {hds : List ExceptHandler} {l : List (Option Nat × Value × TSX)} (hc : Names X x c) (hn : AtSlot X o nm)
      (hsu : ∀ (a : Addr) (oe : Obj) (cls : Value) (d : Option Addr) (pn : List (Addr × Obj)), Zc cls d oe → (∃ vs, oe.data = .fields vs) → PSs (X.suite a ((a, oe) :: pn)) (b₀ :: suite) (ts a cls d)) (r : HdM X hds l) :
      HdM X (.ExceptHandler (some (.Name x np)) nm (b₀ :: suite) pos' :: hds) ((o, c, ts) :: l)
section
variable {X : Cx} {body : List Stmt} {h₀ : ExceptHandler} {hds : List ExceptHandler} {l : List (Option Nat × Value × TSX)} {pos : Pos} {tb : WX → TS} {Wout : WX}
theorem ps_try_mix (hs : X.stack = X.env :: X.outer) (hf : X.env.frame = some X.env.locals) (hN : X.N.Nodup) (tk : Takes X Wout)
    (hb : ∀ (W : WX) (pn : List (Addr × Obj)) (xe : Value → Shared → Prop), Takes (X.tr pn xe) W → PassesOwn (model X.prog X.w) X.A X.env xe → PSs (X.tr pn xe) body (tb W))
    (hh : HdM X (h₀ :: hds) l) : PS X (.Try body (h₀ :: hds) [] [] pos) (fun D σ H => tb (wMix X.K Wout D l) D σ H) := by
  refine ⟨fun pins s σ H D I h => ?_⟩
  have ok := I.ok
  have hfr : X.A.frames = some (X.env :: X.outer) := by rw [ok.frames, hs]
  refine wpAny_Try_except ?_
  refine wpAny_mono ((hb (wMix X.K Wout D l) (X.pn ++ pins) (fun e s₁ => wpAny (model X.prog X.w) X.A (noteFrame e X.env) (fun _ s₂ => wpAny (model X.prog X.w) X.A (setFlight e none) (fun _ s₃ =>
    wpAny (model X.prog X.w) X.A (handleBy e X.env (h₀ :: hds)) (SP X pins D) X.xe s₃) X.xe s₂) X.xe s₁) (fun u s' xx => ?_) PassesOwn.looking).run [] s σ H D (I.toTry _) h) (fun f s1 hsp => ?_) (fun e s1 he => he)
  · obtain ⟨a, B, sI, pins', σ', H', cls, d, rfl, J', nb, up, sky, na, os, ag, w⟩ := xx
    have J : Inv X pins σ' H' sI := J'.ofTry ok
    have sky' : Sky B (X.env :: X.outer) a (Zc cls d) X.env.locals s'.heap := by rw [← hs]; exact sky
    show wpAny (model X.prog X.w) X.A (noteFrame (.ref a) X.env) _ _ _
    refine Sky.land Zc.steady hfr hf sky' fun h3 fl3 up3 => ?_
    have J3 : Inv X pins σ' H' { s' with heap := h3 } := J.landed nb fl3.1 (up.trans up3) os ag
    obtain ⟨oe3, vs3, he3, hz3, hd3⟩ := fl3.there
    -- the error is no frame's object
    have nfr : a ∉ frs (X.env :: X.outer) := fun hm => by
      obtain ⟨_, o', e', hnf⟩ := Heap.FunFrames.mem fl3.2.2.1 hm
      rw [he3] at e'; cases e'
      exact hnf _ hd3
    have nL : a ≠ X.env.locals := fun z => nfr (List.mem_filterMap.mpr ⟨X.env, List.mem_cons_self, by rw [hf, z]⟩)
    have nF : a ∉ X.fs := fun hm => by
      obtain ⟨e, he, q⟩ := List.mem_filterMap.mp hm
      exact nfr (List.mem_filterMap.mpr ⟨e, List.mem_cons_of_mem _ he, q⟩)
    have S3 := J3.suite he3 hd3 na nL nF
    have LT : PySem.W.Looks (model X.prog X.w) h3 (typeOf (.ref a)) cls := fun A Q E s k q => wpAny_typeOf_ref (k _ _ he3) (by rw [hz3.1]; exact q)
    have go : ∀ {hds' : List ExceptHandler} {l' : List (Option Nat × Value × TSX)}, HdM X hds' l' → wMix X.K Wout D l' cls d σ' H' →
        wpAny (model X.prog X.w) X.A (handleBy (.ref a) X.env hds') (SP X pins D) X.xe { s' with heap := h3 } := by
      intro hds' l' hk
      induction hk with
      | nil =>
        intro w
        refine wpAny_handleBy_nil ?_
        obtain ⟨k1, k2, k3, oe, vs, T, oT, ts', he, hz, hd, h1, hr⟩ := id fl3
        unfold PySem.passOn
        refine wpAny_bind (wpAny_field he hd h1 ?_)
        rw [if_neg (show ¬ ((Value.ref T == Value.none) = true) from by simp)]
        have last : wpAny (model X.prog X.w) X.A (setFlight (.ref a) X.env.frame) (fun _ s4 => wpAny (model X.prog X.w) X.A (throw (.ref a) : Sem Flow) (SP X pins D) X.xe s4) X.xe { s' with heap := h3 } := by
          rw [hf]
          refine HandSPX.setFlight_upZ fl3 fun h4 hh4 up4 => wpAny_throw (tk _ _ ?_)
          exact ⟨a, B, sI, pins, σ', H', cls, d, rfl, J, nb, (up.trans up3).trans up4, .inr (.inr (by rw [hs]; exact hh4)), na, os, ag, w⟩
        first
          | exact wpAny_bind (wpAny_pure (wpAny_bind last))
          | exact wpAny_bind last
      | @cons x o nm c ts b₀ suite np pos' hds2 l2 hc hn hsu r ih =>
        rintro ⟨b, hb1, hyes, hno⟩
        refine wpAny_handleBy_cons (codeAny_handlers_test ?_) (by intro q; cases q)
        have LM := PySem.W.exm_one (M := model X.prog X.w) (J3.kIn) LT hb1
        have test : ∀ {Q : Value → Shared → Prop} {E : Value → Shared → Prop}, Q c { s' with heap := h3 } → wpAny (model X.prog X.w) (X.A.mark (some (.ref a))) (eval (.Name x np) X.env) Q E { s' with heap := h3 } := fun {Q E} q => by
          obtain ⟨hg, hdbg, hm | ⟨hm, hv, hnn⟩⟩ := hc
          · exact ld_glob (X := X.suite a ((a, oe3) :: (X.pn ++ pins))) S3 hg hm q hdbg
          · exact ld_blt (X := X.suite a ((a, oe3) :: (X.pn ++ pins))) S3 hg hm hv q hnn hdbg
        refine test (LM.here ?_)
        cases b with
        | false => exact ih (hno rfl)
        | true =>
          cases o with
          | none =>
            cases nm with
            | some n => exact hn.elim
            | none =>
              refine codeAny_handlers_suite ?_
              refine HandSPX.lands_againZ fl3 fun h4 fl4 up4 => ?_
              have J4 : Inv X pins σ' H' { s' with heap := h4 } := J.landed nb fl4.1 ((up.trans up3).trans up4) os ag
              obtain ⟨oe4, vs4, he4, hz4, hd4⟩ := fl4.there
              refine wpAny_mono ((hsu a oe4 cls d (X.pn ++ pins) hz4 ⟨_, hd4⟩).run [] _ _ H' _ (J4.suite he4 hd4 na nL nF) (hyes rfl a na)) (fun f s6 hsp => ?_) (fun _ _ z => False.elim z)
              cases f with
              | ret u =>
                obtain ⟨v6, σ6, H6, S6, r6, q6⟩ := hsp
                exact ⟨_, _, _, S6.unsuite ok, r6, q6⟩
              | _ =>
                obtain ⟨σ6, H6, S6, q6⟩ := hsp
                exact ⟨_, _, S6.unsuite ok, q6⟩
          | some i =>
            cases nm with
            | none => exact hn.elim
            | some n =>
              obtain ⟨hi, hln⟩ := hn
              refine codeAny_handlers_suite_as ?_
              refine HandSPX.lands_againZ fl3 fun h4 fl4 up4 => ?_
              have J4 : Inv X pins σ' H' { s' with heap := h4 } := J.landed nb fl4.1 ((up.trans up3).trans up4) os ag
              obtain ⟨oe4, vs4, he4, hz4, hd4⟩ := fl4.there
              refine store_ok (X := X.suite a ((a, oe4) :: (X.pn ++ pins))) (v := .ref a) (J4.suite he4 hd4 na nL nF) hN hi (.inl hln) rfl (fun s5 S5 => ?_) (.inr hln)
              refine wpAny_mono ((hsu a oe4 cls d (X.pn ++ pins) hz4 ⟨_, hd4⟩).run [] s5 _ H' _ S5 (hyes rfl a na)) (fun f s6 hsp => ?_) (fun _ _ z => False.elim z)
              cases f with
              | ret u =>
                obtain ⟨v6, σ6, H6, S6, r6, q6⟩ := hsp
                exact gone_ok (S6.unsuite ok) hN hi hln fun s7 J7 => ⟨_, _, _, J7, r6, q6⟩
              | _ =>
                obtain ⟨σ6, H6, S6, q6⟩ := hsp
                exact gone_ok (S6.unsuite ok) hN hi hln fun s7 J7 => ⟨_, _, J7, q6⟩
    exact go hh w
  · cases f with
    | next =>
      obtain ⟨σ', H', J', q⟩ := hsp
      exact wpAny_execs_nil ⟨σ', H', J'.ofTry ok, q⟩
    | ret u =>
      obtain ⟨v, σ', H', J', r, q⟩ := hsp
      exact ⟨v, σ', H', J'.ofTry ok, r, q⟩
    | _ =>
      obtain ⟨σ', H', J', q⟩ := hsp
      exact ⟨σ', H', J'.ofTry ok, q⟩
end
end My

/-! Kit8 -/
/-! enumerate(row), the row a tuple or a list -/
namespace PySem
open Sem (wp)
open AutoSeq1 (wpAny_loadPart')
theorem my_enum_newT (l : Addr) (items : Array Value) (n : Nat) (dct : Option Addr) (sl : Array (Option Value)) :
    Meets (Builtin.«enumerate.__new__» ⟨[.type "enumerate", .ref l], []⟩) (fun _ R s => s.heap.get? l = some { cls := .type "tuple", dict := dct, data := .seq items n, slots := sl } ∧
      R (.ok (.ret (.ref (s.heap.push { cls := .type "tuple_iterator", data := .fields #[.ref l, .int 0 0] }).objs.size)))
        { s with heap := (s.heap.push { cls := .type "tuple_iterator", data := .fields #[.ref l, .int 0 0] }).push { cls := .type "enumerate", data := .fields #[.none, .bool false, .ref s.heap.objs.size, rawInt 0, .none, .none] } }) :=
  .of_wp fun prog w A R s h => by
    obtain ⟨hp, g, d, tk, os⟩ := s
    obtain ⟨hl, h⟩ := h
    have hsub := sub_enumerate
    have hT : Heap.IsTuple (Shared.heap ⟨hp, g, d, tk, os⟩) l items := ⟨_, hl, rfl, n, rfl⟩
    wp_walk using wpAny_loadPart' hl
    refine wpAny_stack_any fun st => wpAny_pure ?_
    split
    · rename_i c _ _ _ _ _
      cases (c == Value.type "enumerate")
      · wp_walk using wpAny_loadPart' hl, wpAny_pyIter_tuple hT
        exact ⟨_, rfl, h⟩
      · wp_walk using wpAny_loadPart' hl, wpAny_pyIter_tuple hT
        exact ⟨_, rfl, h⟩
    · wp_walk using wpAny_loadPart' hl, wpAny_pyIter_tuple hT
      exact ⟨_, rfl, h⟩
section
variable {prog : Program} {w : World} {A : Around} {E : Value → Shared → Prop} {s : Shared}
theorem my_enum_tuple {l : Addr} {items : Array Value} {Q : Value → Shared → Prop} (hL : s.heap.IsTuple l items)
    (h : ∀ h', IsEnum h' (s.heap.objs.size + 1) s.heap.objs.size 0 .none → h'.IsTupleIter s.heap.objs.size l 0 → (∀ b o, s.heap.get? b = some o → h'.get? b = some o) → Q (.ref (s.heap.objs.size + 1)) { s with heap := h' }) :
    wpAny (model prog w) A (call (.type "enumerate") [.ref l]) Q E s := by
  obtain ⟨⟨c, dct, dt, sl⟩, hl, hc, n, hd⟩ := hL
  replace hc : c = .type "tuple" := hc
  replace hd : dt = .seq items n := hd
  subst hc hd
  refine callType_new F.called_enumerate (by decide) (F.typeCall_enumerate_1 _) (F.newCall_enumerate_1 _) (fun obj => F.args_object_init_2 obj _) F.entry_enumerate_new (my_enum_newT l items n dct sl) ⟨hl, ?_⟩
  generalize hh : s.heap.push { cls := .type "tuple_iterator", data := .fields #[.ref l, .int 0 0] } = h1
  have hz : h1.objs.size = s.heap.objs.size + 1 := by rw [← hh]; exact Heap.size_push ..
  have it1 : h1.get? s.heap.objs.size = some { cls := .type "tuple_iterator", data := .fields #[.ref l, .int 0 0] } := by rw [← hh]; exact Heap.get?_push_size _ rfl
  have up1 : ∀ b o, s.heap.get? b = some o → h1.get? b = some o := fun b o x => by rw [← hh]; exact Heap.get?_push_of_some _ x
  show _ ∧ _
  rw [hz]
  have he : IsEnum (h1.push { cls := .type "enumerate", data := .fields #[.none, .bool false, .ref s.heap.objs.size, rawInt 0, .none, .none] }) (s.heap.objs.size + 1) s.heap.objs.size 0 .none := by
    have := Heap.get?_push_size h1 (o := { cls := .type "enumerate", data := .fields #[.none, .bool false, .ref s.heap.objs.size, rawInt 0, .none, .none] }) rfl
    rw [hz] at this; exact this
  exact ⟨⟨_, he, rfl⟩, h _ he ⟨_, Heap.get?_push_of_some _ it1, rfl, rfl⟩ fun b o x => Heap.get?_push_of_some _ (up1 b o x)⟩
end
end PySem
namespace My
open PySem PySem.Spec PyProof.Rows L2
theorem tup_ne_iter {h : Heap} {a it t : Addr} {i : Nat} {items : Array Value} (hT : h.IsTuple a items) (hit : h.IsTupleIter it t i) : a ≠ it := by
  obtain ⟨o, ho, hc, _⟩ := hit
  obtain ⟨o2, ho2, hc2, _⟩ := hT
  intro z
  rw [z, ho] at ho2
  cases ho2
  rw [hc] at hc2
  exact absurd (Value.type.inj hc2) (by decide)
/-- the tuple at a, each item in a new pair -/
def Itet (K : PySem.W.Frag) (a : Addr) : It :=
  ⟨fun i H => ∃ (xs : List V) (x : V), SqT K H a xs ∧ xs[i]? = some x, fun i H v H' => ∃ T x, v = .ref T ∧ H T = none ∧ H' = upd H T (.tup [.int (i : Nat), x]) ∧ ∀ xs, SqT K H a xs → xs[i]? = some x, fun i H => ∃ xs : List V, SqT K H a xs ∧ xs.length = i⟩
theorem turn_enumT {P : Program} {w : World} {K : PySem.W.Frag} {elts : List Expr} {kk : Nat} {tpos : Pos} (a e it : Addr) :
    Turn P w K (.Tuple elts kk tpos) (Itet K a) [e, it] e (fun i h => (∃ old, IsEnum h e it ((i : Nat) : Int) old) ∧ h.IsTupleIter it a i ∧ e ≠ it) where
  mem := by simp
  obj := fun i h st b hb => by
    obtain ⟨⟨old, he⟩, ⟨o, ho, hc, hd⟩, _⟩ := st
    rcases (show b = e ∨ b = it by simpa using hb) with z | z
    · rw [z]; exact ⟨_, he, fun v q => nomatch q⟩
    · rw [z]; exact ⟨o, ho, fun v q => by rw [hd] at q; cases q⟩
  keep := fun i h h' st k => let ⟨⟨old, he⟩, hi, hne⟩ := st; ⟨⟨old, k e (by simp) _ he⟩, hi.at fun o q => k it (by simp) o q, hne⟩
  item := by
    intro X hP hw hK hc i pins s σ H E I hf st hg
    subst hP hw hK
    obtain ⟨⟨old, he⟩, hit, hne⟩ := st
    obtain ⟨xs, x, hq, hx⟩ := hg
    obtain ⟨its, rv, p, hz⟩ := I.tuple hq
    have hT : s.heap.IsTuple a its.toArray := p
    obtain ⟨u, hu, ru⟩ := rv.get hx
    have hel : e < s.heap.objs.size := Heap.lt_size he
    have hil : it < s.heap.objs.size := by obtain ⟨_, q, _⟩ := hit; exact Heap.lt_size q
    have ane : a ≠ it := tup_ne_iter hT hit
    have ane2 : e ≠ a := by
      obtain ⟨o2, ho2, hc2, _⟩ := hT
      intro z
      rw [← z] at ho2
      have := he.symm.trans ho2
      cases this
      exact absurd (Value.type.inj hc2) (by decide)
    have hlt : i < its.toArray.size := by have := (List.getElem?_eq_some_iff.mp hu).1; simpa using this
    refine wpAny_pyNext_enum_itemD (Draws.tuple (A := X.A.in1) (I.ok.hd hc) it a ane its.toArray) he ⟨hit, hT⟩ hlt hne (by simp [hne, ane2]) fun x' h' tk hP' ho hit' hTp hsz hk => ?_
    have ex : x' = u := by
      have : its.toArray[i]? = some u := by simpa using hu
      exact Option.some.inj (hP'.symm.trans this)
    subst ex
    refine ⟨_, rfl, wpAny_letOwnedTupleGo_enum (s := { s with heap := h', toks := tk + 1 }) ho fun h'' he' sb => ?_⟩
    have hT2 : h''.get? s.heap.objs.size = some { cls := .type "tuple", data := .seq #[.int i tk, x'] } := (sb.2 _ (Nat.ne_of_gt hel)).trans hTp
    have new : ObjOk X.prog X.w (upd H s.heap.objs.size (.tup [.int (i : Nat), x])) h'' s.heap.objs.size (.tup [.int (i : Nat), x]) :=
      ⟨by show 2 ≤ sizeLine; decide, [.int i tk, x'], .cons ⟨_, rfl⟩ (.cons ru .nil), ⟨_, hT2, rfl, _, rfl⟩⟩
    have I1 : Inv X pins σ (upd H s.heap.objs.size (.tup [.int (i : Nat), x])) { s with heap := h'', toks := tk + 1 } :=
      I.turnedNew (ch := [e, it]) (fun b ob hb q => (sb.2 b (fun z => hb (by simp [z]))).trans (hk b ob (fun z => hb (by simp [z])) (fun z => hb (by simp [z])) q)) hf (Nat.le_refl _) new
    refine ⟨.ref s.heap.objs.size, _, I1, rfl, ⟨_, x, rfl, I.hok.fresh (Nat.le_refl _), rfl, fun ys hy => by rw [I.tuple_inj hy hq]; exact hx⟩, ⟨⟨x', ?_⟩, hit'.1.at fun o q => (sb.2 it (Ne.symm hne)).trans q, hne⟩, fun b hb => ?_⟩
    · have e1 : ((i + 1 : Nat) : Int) = (i : Int) + 1 := by omega
      rw [e1]; exact he'
    · have hb' : b < s.heap.objs.size := by
        rcases (show b = e ∨ b = it by simpa using hb) with z | z
        · rw [z]; exact hel
        · rw [z]; exact hil
      rw [upd_ne (Nat.ne_of_lt hb')]
      exact (hf b hb).1
  done := by
    intro X hP hw hK hc i pins s σ H E I hf st hg
    subst hP hw hK
    obtain ⟨⟨old, he⟩, hit, hne⟩ := st
    obtain ⟨xs, hq, hx⟩ := hg
    obtain ⟨its, rv, p, hz⟩ := I.tuple hq
    have hT : s.heap.IsTuple a its.toArray := p
    obtain ⟨f0, f1, f2, f3, f4, f5⟩ := hf it (by simp)
    have hl := rv.length
    have ane : a ≠ it := tup_ne_iter hT hit
    have hi : i = its.toArray.size := by rw [List.size_toArray]; omega
    subst hi
    exact wpAny_pyNext_enum_endD (Draws.tuple (A := X.A.in1) (I.ok.hd hc) it a ane its.toArray) he ⟨hit, hT⟩ fun h' eb => ⟨rfl, I.turned (t' := s.toks) (fun b o hb q => eb b o hb q) f0 f1 f3 f4 f5⟩
  self := fun A i s Q E st h => let ⟨⟨_, he⟩, _⟩ := st; wpAny_pyIter_enum he h
theorem walk_enumT {K : PySem.W.Frag} {a : Addr} {xs : List V} : Walk (Itet K a) xs.length (fun H => SqT K H a xs) (YPair (fun i => some (.int (i : Nat))) (fun i => xs[i]?)) := by
  refine ⟨fun i _ hi q => ⟨xs, xs[i], q, by simp [hi]⟩, fun _ q => ⟨xs, q, rfl⟩, fun i H v H' _ q y => ?_⟩
  obtain ⟨T, x, h1, h2, h3, h4⟩ := y
  exact ⟨T, .int (i : Nat), x, h1, h2, h3, rfl, h4 xs q⟩
/-- over enumerate(row) -/
def iEnS (ta : TA) : TI := fun σ H R => ta σ H fun vs H1 => ∃ (a : Addr) (xs : List V), vs = [.ref a] ∧ Row H1 a xs ∧ ∀ (J : It) (G : Hp → Prop), Walk J xs.length G (YPair (fun i => some (.int (i : Nat))) (fun i => xs[i]?)) → (∀ H' : Hp, H' a = H1 a → G H') → R J H1
theorem pi_enS {X : Cx} {e : Expr} {ta : TA} {p pos tpos : Pos} {elts : List Expr} {kk : Nat} (hg : Gl X "enumerate") (hm : X.mg "enumerate" = none) (ha : PA X [e] ta) (hs : starEach [e] X.env = [(false, eval e X.env)] := by rfl) :
    PI X (.Tuple elts kk tpos) (.Call (.Name "enumerate" p) [e] [] pos) (iEnS ta) := by
  refine ⟨fun pins s σ H R I h => ?_⟩
  refine Call_ (ld_blt I hg hm boot_enumerate (PyProof.Rows.callWith_type1 (thn (ha.run pos pins s σ H _ I h) fun us s1 ⟨vs, H1, I1, r1, q1⟩ => ?_) hs rfl))
  obtain ⟨a, xs, rfl, hr, q⟩ := q1
  obtain ⟨u, rfl, ru⟩ := vals1 r1
  cases ru
  rcases hr with hr | hr
  · obtain ⟨its, rv, p', hz⟩ := I1.list (SqL.of hr)
    refine call_enumerate_list p'.isList fun h' he hit hsz hk => wpAny_pyIter_enum he ?_
    have I2 : Inv X pins σ H1 { s1 with heap := h' } := I1.kept (t' := s1.toks) hk
    refine ⟨s1.heap.objs.size + 1, [s1.heap.objs.size + 1, s1.heap.objs.size], _, _, H1, rfl, I2, turn_enum a (s1.heap.objs.size + 1) s1.heap.objs.size, ⟨⟨.none, he⟩, hit, Nat.succ_ne_self _⟩, fun b hb => ?_, q _ _ walk_enum fun H' e => SqL.of (e.trans hr)⟩
    have hle : s1.heap.objs.size ≤ b := by
      rcases (show b = s1.heap.objs.size + 1 ∨ b = s1.heap.objs.size by simpa using hb) with z | z
      · rw [z]; exact Nat.le_add_right _ _
      · rw [z]; exact Nat.le_refl _
    exact I1.fpOk hle (I1.hok.fresh hle)
  · obtain ⟨its, rv, p', hz⟩ := I1.tuple (SqT.of hr)
    refine my_enum_tuple (show s1.heap.IsTuple a its.toArray from p') fun h' he hit hk => wpAny_pyIter_enum he ?_
    have I2 : Inv X pins σ H1 { s1 with heap := h' } := I1.kept (t' := s1.toks) hk
    refine ⟨s1.heap.objs.size + 1, [s1.heap.objs.size + 1, s1.heap.objs.size], _, _, H1, rfl, I2, turn_enumT a (s1.heap.objs.size + 1) s1.heap.objs.size, ⟨⟨.none, he⟩, hit, Nat.succ_ne_self _⟩, fun b hb => ?_, q _ _ walk_enumT fun H' e => SqT.of (e.trans hr)⟩
    have hle : s1.heap.objs.size ≤ b := by
      rcases (show b = s1.heap.objs.size + 1 ∨ b = s1.heap.objs.size by simpa using hb) with z | z
      · rw [z]; exact Nat.le_add_right _ _
      · rw [z]; exact Nat.le_refl _
    exact I1.fpOk hle (I1.hok.fresh hle)
end My

/-! KitL1 -/
/-! list(x), x an iterator whose items are new pairs that stay (enumerate, zip) -/
namespace PySem.W
open PySem PySem.Calls PyProof.Rows PyProof.V PySem.Spec
theorem enumerate_no_len : typeLookup (.type "enumerate") "__len__" = pure none := by rw [typeLookup_type, builtinLookup_eq_fast]; kernel_rfl
theorem enumerate_no_hint : typeLookup (.type "enumerate") "__length_hint__" = pure none := by rw [typeLookup_type, builtinLookup_eq_fast]; kernel_rfl
theorem zip_no_len : typeLookup (.type "zip") "__len__" = pure none := by rw [typeLookup_type, builtinLookup_eq_fast]; kernel_rfl
theorem zip_no_hint : typeLookup (.type "zip") "__length_hint__" = pure none := by rw [typeLookup_type, builtinLookup_eq_fast]; kernel_rfl
/-- the addresses as hold the pairs, in order, as tuples; they lie above lo and rise -/
structure PlG (Rel : Nat → Value → Value → Prop) (lo : Addr) (h : Heap) (as : List Addr) : Prop where
  rise : as.Pairwise (· < ·)
  above : ∀ a ∈ as, lo < a
  pairs : ∀ (j : Nat) (a : Addr), as[j]? = some a → ∃ k v, Rel j k v ∧ h.get? a = some { cls := .type "tuple", data := .seq #[k, v] }
theorem PlG.there {Rel : Nat → Value → Value → Prop} {lo : Addr} {h : Heap} {as : List Addr} (g : PlG Rel lo h as) {a : Addr} (ha : a ∈ as) : a < h.objs.size := by
  obtain ⟨j, hj⟩ := List.mem_iff_getElem?.mp ha
  obtain ⟨_, _, _, e⟩ := g.pairs j a hj
  exact Heap.lt_size e
/-- an iterator whose n items are new pairs, while at S a list grows -/
structure LSrc (prog : Program) (w : World) (A : Around) (I S : Addr) (wr : List Addr) (n : Nat) (Rel : Nat → Value → Value → Prop) (St : Nat → Heap → Prop) : Prop where
  low : ∀ b ∈ wr, b < S
  frame : ∀ i h h', St i h → (∀ b o, b ≠ S → h.get? b = some o → h'.get? b = some o) → St i h'
  item : ∀ i (s : Shared) (Q : Option Value → Shared → Prop) (E : Value → Shared → Prop), i < n → St i s.heap → S < s.heap.objs.size →
    (∀ k v h' tk, Rel i k v → h'.get? s.heap.objs.size = some { cls := .type "tuple", data := .seq #[k, v] } → St (i + 1) h' → (∀ b o, b ∉ wr → s.heap.get? b = some o → h'.get? b = some o) → Q (some (.ref s.heap.objs.size)) { s with heap := h', toks := tk }) →
    wpAny (model prog w) A (pyNext (.ref I)) Q E s
  done : ∀ (s : Shared) (Q : Option Value → Shared → Prop) (E : Value → Shared → Prop), St n s.heap →
    (∀ h' tk, (∀ b o, b ∉ wr → s.heap.get? b = some o → h'.get? b = some o) → Q none { s with heap := h', toks := tk }) → wpAny (model prog w) A (pyNext (.ref I)) Q E s
section
variable {prog : Program} {w : World} {A : Around} {s : Shared} {R : Result → Shared → Prop} {I S : Addr} {wr : List Addr} {n : Nat} {Rel : Nat → Value → Value → Prop} {St : Nat → Heap → Prop}
theorem LSrc.off (L : LSrc prog w A I S wr n Rel St) : S ∉ wr := fun z => Nat.lt_irrefl _ (L.low S z)
theorem LSrc.over (L : LSrc prog w A I S wr n Rel St) {b : Addr} (hb : S < b) : b ∉ wr := fun z => Nat.lt_irrefl _ (Nat.lt_trans hb (L.low b z))
theorem pl_loop (L : LSrc prog w A.in1 I S wr n Rel St) (hn : n ≤ sizeLine) (res : Value) {h₁ : Heap}
    (hR : ∀ h' tk acc c as, (∀ b o, b ≠ S → b ∉ wr → h₁.get? b = some o → h'.get? b = some o) → h'.get? S = some { cls := .type "list", dict := none, data := .seq acc c, slots := #[] } → as.length = n → PlG Rel S h' as →
      acc.toList = as.map Value.ref → R (.ok (.ret res)) { s with heap := h', toks := tk }) :
    ∀ (k i : Nat) (h : Heap) (tk c : Nat) (acc : Array Value) (as : List Addr), n - i = k → i ≤ n → St i h → (∀ b o, b ≠ S → b ∉ wr → h₁.get? b = some o → h.get? b = some o) →
      h.get? S = some { cls := .type "list", dict := none, data := .seq acc c, slots := #[] } → acc.toList = as.map Value.ref → as.length = i → PlG Rel S h as →
      codeAny (model prog w) A (.builtin "list.extend.loop" ⟨[.ref S, .ref I, res], []⟩) R { s with heap := h, toks := tk } := by
  intro k
  induction k with
  | zero =>
    intro i h tk c acc as hk hi hst hkeep hS hacc hal hG
    have hin : i = n := by omega
    subst hin
    refine codeAny_builtin PySem.F.entry_extend_loop ?_
    rw [Around.under_plainId PySem.F.plain_extend_loop _]
    show wpAny _ A.in1 (pyNext (.ref I) >>= _) _ _ _
    refine wpAny_bind (L.done { s with heap := h, toks := tk } _ _ hst fun h' tk' he => ?_)
    refine wpAny_pure (hR h' tk' acc c as (fun b o h1 h2 e => he b o h2 (hkeep b o h1 h2 e)) (he S _ L.off hS) hal ⟨hG.rise, hG.above, fun j a hj => ?_⟩ hacc)
    obtain ⟨kk, v, r, e3⟩ := hG.pairs j a hj
    exact ⟨kk, v, r, he a _ (L.over (hG.above a (List.mem_of_getElem? hj))) e3⟩
  | succ k ih =>
    intro i h tk c acc as hk hi hst hkeep hS hacc hal hG
    have hlt : i < n := by omega
    have hsz : acc.size = i := by rw [← Array.length_toList, hacc, List.length_map, hal]
    have hSl : S < h.objs.size := Heap.lt_size hS
    refine codeAny_builtin PySem.F.entry_extend_loop ?_
    rw [Around.under_plainId PySem.F.plain_extend_loop _]
    show wpAny _ A.in1 (pyNext (.ref I) >>= _) _ _ _
    refine wpAny_bind (L.item i { s with heap := h, toks := tk } _ _ hlt hst hSl fun kk v h' tk' hrel ht hst' hkp => ?_)
    dsimp only at ht hkp ⊢
    have hS' := hkp S _ L.off hS
    have up : ∀ b o, b ≠ S → h'.get? b = some o → (h'.update S (Obj.mapSeq (·.push (Value.ref h.objs.size)))).get? b = some o := fun b o hb e => (Heap.get?_update_other _ _ (Ne.symm hb)).trans e
    show wpAny _ A.in1 (updateSeq S (·.push (Value.ref h.objs.size)) >>= _) _ _ _
    refine wpAny_bind ?_
    refine wpAny_updateSeq hS' rfl (wpAny_pure ⟨plainId_quiet PySem.F.plain_extend_loop _, ih (i + 1) _ tk' _ (acc.push (Value.ref h.objs.size)) (as ++ [h.objs.size]) (by omega) hlt (L.frame _ _ _ hst' fun b o hb e => up b o hb e)
      (fun b o h1 h2 e => up b o h1 (hkp b o h2 (hkeep b o h1 h2 e))) (Heap.get?_update_self _ hS' rfl) (by rw [Array.toList_push, hacc, List.map_append]; rfl) (by rw [List.length_append, hal]; rfl) ⟨?_, ?_, ?_⟩⟩) (by rw [hsz]; omega) (by show (acc.push (Value.ref h.objs.size)).size ≤ sizeLine + 1; rw [Array.size_push, hsz]; omega)
    · refine List.pairwise_append.mpr ⟨hG.rise, List.pairwise_singleton _ _, fun a ha b hb => ?_⟩
      rw [List.mem_singleton.mp hb]
      exact hG.there ha
    · intro a ha
      rcases List.mem_append.mp ha with ha | ha
      · exact hG.above a ha
      · rw [List.mem_singleton.mp ha]; exact hSl
    · intro j b hj
      rcases Nat.lt_trichotomy j as.length with h1 | h1 | h1
      · rw [List.getElem?_append_left h1] at hj
        obtain ⟨k1, v1, r1, e3⟩ := hG.pairs j b hj
        have hb := hG.above b (List.mem_of_getElem? hj)
        exact ⟨k1, v1, r1, up b _ (Nat.ne_of_gt hb) (hkp b _ (L.over hb) e3)⟩
      · subst h1
        have hb : h.objs.size = b := by simpa using hj
        subst hb
        exact ⟨kk, v, by rw [hal]; exact hrel, up _ _ (Nat.ne_of_gt hSl) ht⟩
      · have hnone : (as ++ [h.objs.size])[j]? = none := List.getElem?_eq_none (by rw [List.length_append, List.length_singleton]; omega)
        rw [hnone] at hj; cases hj
theorem pl_extend {T : String} (hlen : typeLookup (.type T) "__len__" = pure none) (hhint : typeLookup (.type T) "__length_hint__" = pure none) (n2 : (Value.type T == Value.type "list") = false) (n3 : (Value.type T == Value.type "tuple") = false)
    (L : LSrc prog w A.in1 I S wr n Rel St) (hT : s.TypeIs (.ref I) T) (hIS : I ≠ S) (self : ∀ (E : Value → Shared → Prop) (Q : Value → Shared → Prop), Q (.ref I) s → wpAny (model prog w) A.in1 (pyIter (.ref I)) Q E s) (hst : St 0 s.heap) (res : Value) (c₀ : Nat)
    (hS : s.heap.get? S = some { cls := .type "list", data := .seq #[] c₀ })
    (hR : ∀ h' tk acc c as, (∀ b o, b ≠ S → b ∉ wr → s.heap.get? b = some o → h'.get? b = some o) → h'.get? S = some { cls := .type "list", dict := none, data := .seq acc c, slots := #[] } → as.length = n → PlG Rel S h' as →
      acc.toList = as.map Value.ref → R (.ok (.ret res)) { s with heap := h', toks := tk }) (hn : n ≤ sizeLine) :
    wpAny (model prog w) A.in1 (Builtin.List.listExtendWith (.ref S) (.ref I) res)
      (fun fin s' => match fin with | .done f => R (.ok f) s' | .again c' => c'.quiet = true ∧ codeAny (model prog w) A c' R s') (fun e s' => R (.error e) s') s := by
  unfold Builtin.List.listExtendWith
  refine wpAny_bind (wpAny_typeOf hT ?_)
  have h1 : Builtin.List.listSameRef (.ref S) (.ref I) = false := by simp [Builtin.List.listSameRef, Ne.symm hIS]
  simp only [h1, n2, n3, Bool.or_false, Bool.false_eq_true, if_false]
  refine wpAny_bind (self _ _ ?_)
  refine wpAny_bind (wpAny_holding ?_)
  unfold Builtin.List.listLengthHint
  refine wpAny_bind (wpAny_specialOf hT hlen ?_)
  show wpAny _ A.in1 (specialOf (Value.ref I) (Str.ofString "__length_hint__") >>= _) _ _ _
  refine wpAny_bind (wpAny_specialOf hT hhint ?_)
  refine wpAny_pure ?_
  show wpAny _ A.in1 (rule "list.extend.makes-room" >>= fun _ => Builtin.List.listTouch (.ref S) >>= fun _ =>
    again (.builtin "list.extend.loop" ⟨[.ref S, .ref I, res], []⟩)) _ _ _
  refine wpAny_bind (wpAny_rule ?_)
  refine wpAny_bind ?_
  show wpAny _ A.in1 (updateSeq S (·.push .none) >>= fun _ => updateSeq S (·.pop)) _ _ _
  refine wpAny_bind (wpAny_updateSeq hS rfl ?_)
  have hS₂ := Heap.get?_update_self (Obj.mapSeq (·.push Value.none)) hS rfl
  refine wpAny_updateSeq (hz := by seq_fits) hS₂ rfl ?_
  have hS₃ := Heap.get?_update_self (Obj.mapSeq (·.pop)) hS₂ rfl
  have oth : ∀ b o, b ≠ S → s.heap.get? b = some o → ((s.heap.update S (Obj.mapSeq (·.push Value.none))).update S (Obj.mapSeq (·.pop))).get? b = some o :=
    fun b o hb e => (Heap.get?_update_other _ _ (Ne.symm hb)).trans ((Heap.get?_update_other _ _ (Ne.symm hb)).trans e)
  exact wpAny_pure ⟨plainId_quiet PySem.F.plain_extend_loop _, pl_loop (s := s) (h₁ := s.heap) L hn res hR n 0 _ s.toks _ #[] [] (Nat.sub_zero _) (Nat.zero_le _) (L.frame _ _ _ hst oth)
    (fun b o hb _ e => oth b o hb e) hS₃ rfl rfl ⟨List.Pairwise.nil, (fun _ ha => nomatch ha), (fun j a hj => by simp at hj)⟩⟩
theorem pl_init {T : String} (hlen : typeLookup (.type T) "__len__" = pure none) (hhint : typeLookup (.type T) "__length_hint__" = pure none) (n2 : (Value.type T == Value.type "list") = false) (n3 : (Value.type T == Value.type "tuple") = false)
    (L : LSrc prog w A.in1 I S wr n Rel St) (hT : ∀ s' : Shared, St 0 s'.heap → s'.TypeIs (.ref I) T) (hIS : I ≠ S) (self : ∀ (s' : Shared) (E : Value → Shared → Prop) (Q : Value → Shared → Prop), St 0 s'.heap → Q (.ref I) s' → wpAny (model prog w) A.in1 (pyIter (.ref I)) Q E s') (hst : St 0 s.heap)
    (hS : s.heap.get? S = some { cls := .type "list", data := .seq #[] })
    (hR : ∀ h' tk acc c as, (∀ b o, b ≠ S → b ∉ wr → s.heap.get? b = some o → h'.get? b = some o) → h'.get? S = some { cls := .type "list", dict := none, data := .seq acc c, slots := #[] } → as.length = n → PlG Rel S h' as →
      acc.toList = as.map Value.ref → R (.ok (.ret .none)) { s with heap := h', toks := tk }) (hn : n ≤ sizeLine) :
    wpAny (model prog w) A.in1 (Builtin.«list.__init__» ⟨[.ref S, .ref I], []⟩)
      (fun fin s' => match fin with | .done f => R (.ok f) s' | .again c' => c'.quiet = true ∧ codeAny (model prog w) A c' R s') (fun e s' => R (.error e) s') s := by
  show wpAny _ _ (do let old ← Builtin.List.listItems (.ref S); Builtin.List.listUpdate (.ref S) (fun _ => #[]); letGo old.toList.reverse; Builtin.List.listExtendWith (.ref S) (.ref I) .none) _ _ s
  refine wpAny_bind ?_
  unfold Builtin.List.listItems
  refine wpAny_bind (wpAny_seqItems hS rfl (wpAny_pure ?_))
  show wpAny _ _ (updateSeq S (fun _ => #[]) >>= fun _ => letGo (#[] : Array Value).toList.reverse >>= fun _ => Builtin.List.listExtendWith (.ref S) (.ref I) .none) _ _ s
  refine wpAny_bind (wpAny_updateSeq hS rfl ?_)
  have hS₂ := Heap.get?_update_self (Obj.mapSeq (fun _ => (#[] : Array Value))) hS rfl
  have oth : ∀ b o, b ≠ S → s.heap.get? b = some o → (s.heap.update S (Obj.mapSeq (fun _ => (#[] : Array Value)))).get? b = some o :=
    fun b o hb e => (Heap.get?_update_other _ _ (Ne.symm hb)).trans e
  have st2 := L.frame _ _ _ hst oth
  refine wpAny_bind (wpAny_letGo ?_)
  refine pl_extend hlen hhint n2 n3 L (hT _ st2) hIS (fun E Q q => self _ E Q st2 q) st2 .none _ hS₂ (fun h' tk acc c as hk hS' hl hG hacc => ?_) hn
  exact hR h' tk acc c as (fun b o hb hw e => hk b o hb hw (oth b o hb e)) hS' hl hG hacc
end
section
variable {prog : Program} {w : World} {A : Around} {E : Value → Shared → Prop} {s : Shared} {I : Addr} {wr : List Addr} {n : Nat} {Rel : Nat → Value → Value → Prop} {St : Addr → Nat → Heap → Prop}
/-- list(x) of such an iterator -/
theorem pl_call {T : String} {Q : Value → Shared → Prop} (hlen : typeLookup (.type T) "__len__" = pure none) (hhint : typeLookup (.type T) "__length_hint__" = pure none) (n2 : (Value.type T == Value.type "list") = false) (n3 : (Value.type T == Value.type "tuple") = false)
    (L : ∀ S, s.heap.objs.size ≤ S → LSrc prog w A.in1.in1 I S wr n Rel (St S)) (hT : ∀ (S : Addr) (s' : Shared), St S 0 s'.heap → s'.TypeIs (.ref I) T) (hI : I < s.heap.objs.size) (self : ∀ S (s' : Shared) (E : Value → Shared → Prop) (Q : Value → Shared → Prop), St S 0 s'.heap → Q (.ref I) s' → wpAny (model prog w) A.in1.in1 (pyIter (.ref I)) Q E s')
    (hst : ∀ (S : Addr) (h' : Heap), s.heap.objs.size ≤ S → (∀ b o, s.heap.get? b = some o → h'.get? b = some o) → St S 0 h') (hn : n ≤ sizeLine)
    (hQ : ∀ h' tk acc c as, (∀ b o, b ∉ wr → s.heap.get? b = some o → h'.get? b = some o) → h'.get? s.heap.objs.size = some { cls := .type "list", dict := none, data := .seq acc c, slots := #[] } → as.length = n → PlG Rel s.heap.objs.size h' as →
      acc.toList = as.map Value.ref → Q (.ref s.heap.objs.size) { s with heap := h', toks := tk }) :
    wpAny (model prog w) A (call (.type "list") [.ref I]) Q E s := by
  refine callType_codes (Q₁ := fun obj s₁ => obj = .ref s.heap.objs.size ∧ s₁ = { s with heap := s.heap.push { cls := .type "list", data := .seq #[] } }) PySem.F.called_list (PySem.F.typeCall_list_1 _) PySem.F.entry_list_init
    (code_list_new _ ⟨rfl, rfl⟩) fun obj s₁ h₁ => ?_
  obtain ⟨rfl, rfl⟩ := h₁
  have hS : (s.heap.push { cls := .type "list", data := .seq #[] }).get? s.heap.objs.size = some { cls := .type "list", data := .seq #[] } := Heap.get?_push_size _ rfl
  refine ⟨⟨_, hS, rfl⟩, PySem.F.args_list_init_2 _ _, pl_init (A := A.in1) hlen hhint n2 n3 (L _ (Nat.le_refl _)) (hT _) (Nat.ne_of_lt hI) (self _) (hst _ _ (Nat.le_refl _) fun b o e => Heap.get?_push_of_some _ e) hS (fun h' tk acc c as hk hS' hl hG hacc => ?_) hn⟩
  exact ⟨rfl, hQ h' tk acc c as (fun b o hw e => hk b o (Nat.ne_of_lt (Heap.lt_size e)) hw (Heap.get?_push_of_some _ e)) hS' hl hG hacc⟩
end
end PySem.W

/-! KitL2 -/
/-! enumerate, zip over any drawn iterators, while the tuple given out before is still there -/
namespace PySem
open Sem (wp)
section
variable {prog : Program} {w : World} {A : Around} {E : Value → Shared → Prop} {s : Shared}
theorem my_enum_item_held {e it T : Addr} {fp : List Addr} {n i : Nat} {c : Int} {P : Nat → Value → Prop} {St : Nat → Heap → Prop} {old : Value} {f : Bool} {oT : Obj} {Q : Value → Shared → Prop}
    (D : Draws prog w A it fp n P St) (he : IsEnumHeld s.heap e it c old T f) (hT : s.heap.get? T = some oT) (hTe : T ≠ e) (hTi : T ≠ it) (hst : St i s.heap) (hlt : i < n) (hne : e ≠ it) (hef : e ∉ fp)
    (hQ : ∀ x h' tk, P i x → IsEnumHeld h' e it (c + 1) old T true → St (i + 1) h' →
      h'.get? s.heap.objs.size = some { cls := .type "tuple", data := .seq #[.int c tk, x] } → h'.objs.size = s.heap.objs.size + 1 →
      (∀ b o, b ≠ e → b ≠ it → s.heap.get? b = some o → h'.get? b = some o) → Q (.ref s.heap.objs.size) { s with heap := h', toks := tk + 1 }) :
    wpAny (model prog w) A (Builtin.«enumerate.__next__» ⟨[.ref e], []⟩) (fun fin s' => ∃ v, fin = .done (.ret v) ∧ Q v s') E s := by
  obtain ⟨hp, g, d, tk₀, os⟩ := s
  show wpAny _ _ (field (.ref e) 2 >>= _) _ _ _
  refine wpAny_bind (wpAny_field he rfl (x := .ref it) rfl ?_)
  refine wpAny_bind (D.item i _ _ _ hlt hst fun x h₁ tk hPx hit₁ hs₁ => ?_)
  replace hs₁ : Heap.SameBut it hp h₁ := hs₁
  have he₁ : IsEnumHeld h₁ e it c old T f := (hs₁.2 e hne).trans he
  show wpAny _ _ (field (.ref e) 3 >>= _) _ _ ⟨h₁, g, d, tk, os⟩
  refine wpAny_bind (wpAny_field he₁ rfl (x := rawInt c) rfl ?_)
  show wpAny _ _ (field (.ref e) 4 >>= _) _ _ ⟨h₁, g, d, tk, os⟩
  refine wpAny_bind (wpAny_field he₁ rfl (x := .none) rfl ?_)
  show wpAny _ _ (mkInt c >>= _) _ _ ⟨h₁, g, d, tk, os⟩
  refine wpAny_bind (wpAny_mkInt ?_)
  show wpAny _ _ (setField (.ref e) 3 (rawInt (c + 1)) >>= _) _ _ ⟨h₁, g, d, tk + 1, os⟩
  refine wpAny_bind (wpAny_setField_rec he₁ (by simp) fun h₂ he₂ hs₂ => ?_)
  replace hs₂ : Heap.SameBut e h₁ h₂ := hs₂
  replace he₂ : IsEnumHeld h₂ e it (c + 1) old T f := he₂
  show wpAny _ _ (setField (.ref e) 4 .none >>= _) _ _ ⟨h₂, g, d, tk + 1, os⟩
  refine wpAny_bind (wpAny_setField_rec he₂ (by simp) fun h₃ he₃ hs₃ => ?_)
  replace hs₃ : Heap.SameBut e h₂ h₃ := hs₃
  replace he₃ : IsEnumHeld h₃ e it (c + 1) old T f := he₃
  show wpAny _ _ (newTuple [.int c tk, x] >>= _) _ _ ⟨h₃, g, d, tk + 1, os⟩
  refine wpAny_bind (wpAny_newTuple ?_)
  have he₄ : IsEnumHeld (h₃.push { cls := .type "tuple", data := .seq #[.int c tk, x] }) e it (c + 1) old T f := Heap.get?_push_of_some _ he₃
  generalize hh₄ : h₃.push { cls := .type "tuple", data := .seq #[.int c tk, x] } = h₄ at he₄
  have hsz : h₃.objs.size = hp.objs.size := by rw [hs₃.1, hs₂.1, hs₁.1]
  have hel : e < hp.objs.size := Heap.lt_size he
  have ht₄ : h₄.get? hp.objs.size = some { cls := .type "tuple", data := .seq #[.int c tk, x] } := by rw [← hh₄, ← hsz]; exact Heap.get?_push_size _ rfl
  have hz₄ : h₄.objs.size = hp.objs.size + 1 := by rw [← hh₄, Heap.size_push, hsz]
  have hk₄ : ∀ b o, b ≠ e → b ≠ it → hp.get? b = some o → h₄.get? b = some o := fun b o hbe hbi hb => by
    rw [← hh₄]; exact Heap.get?_push_of_some _ (hs₃.extBut b o hbe (hs₂.extBut b o hbe (hs₁.extBut b o hbi hb)))
  have hit₄ : St (i + 1) h₄ := D.frame _ _ _ hit₁ fun b hb o y => by
    have hbe : b ≠ e := fun q => hef (q ▸ hb)
    rw [← hh₄]; exact Heap.get?_push_of_some _ (hs₃.extBut b o hbe (hs₂.extBut b o hbe y))
  show wpAny _ _ (Builtin.SmallTypes.ownedTupleIsFree (.ref e) >>= _) _ _ ⟨h₄, g, d, tk + 1, os⟩
  rw [hsz]
  clear hh₄ he₃ hs₃ he₂ hs₂ he₁ hs₁ hit₁ hsz h₃ h₂ h₁
  refine wpAny_bind (wpAny_tupleHeld_enum (s := ⟨h₄, g, d, tk + 1, os⟩) he₄ (hk₄ T oT hTe hTi hT) fun h₅ he₅ hs₅ => ?_)
  replace hs₅ : Heap.SameBut e h₄ h₅ := hs₅
  simp only [Bool.false_eq_true, if_false]
  refine wpAny_pure ⟨_, rfl, hQ x h₅ tk hPx he₅ (D.over hit₄ hs₅ hef) (hs₅.extBut _ _ (Nat.ne_of_gt hel) ht₄) ?_ fun b o hbe hbi hb => hs₅.extBut b o hbe (hk₄ b o hbe hbi hb)⟩
  show h₅.objs.size = hp.objs.size + 1
  rw [hs₅.1, hz₄]
theorem my_pyNext_enum_item_held {e it T : Addr} {fp : List Addr} {n i : Nat} {c : Int} {P : Nat → Value → Prop} {St : Nat → Heap → Prop} {old : Value} {f : Bool} {oT : Obj} {Q : Option Value → Shared → Prop}
    (D : Draws prog w A.in1 it fp n P St) (he : IsEnumHeld s.heap e it c old T f) (hT : s.heap.get? T = some oT) (hTe : T ≠ e) (hTi : T ≠ it) (hst : St i s.heap) (hlt : i < n) (hne : e ≠ it) (hef : e ∉ fp)
    (hQ : ∀ x h' tk, P i x → IsEnumHeld h' e it (c + 1) old T true → St (i + 1) h' →
      h'.get? s.heap.objs.size = some { cls := .type "tuple", data := .seq #[.int c tk, x] } → h'.objs.size = s.heap.objs.size + 1 →
      (∀ b o, b ≠ e → b ≠ it → s.heap.get? b = some o → h'.get? b = some o) → Q (some (.ref s.heap.objs.size)) { s with heap := h', toks := tk + 1 }) :
    wpAny (model prog w) A (pyNext (.ref e)) Q E s := by
  have hTy : s.TypeIs (.ref e) "enumerate" := ⟨_, he, rfl⟩
  unfold pyNext
  exact wpAny_bind (wpAny_attempt (wpAny_callSpecial?_slot (name := Str.ofString "__next__") hTy F.slot_enumerate_next
    (wpAny_call_entry F.slot_enumerate_next hTy F.entry_enumerate_next
      (my_enum_item_held D he hT hTe hTi hst hlt hne hef fun x h' tk a0 a1 a2 a3 a4 a5 => wpAny_pure (hQ x h' tk a0 a1 a2 a3 a4 a5)) (F.args_enumerate_next_1 _))))
theorem my_pyNext_enum_end_held {e it T : Addr} {fp : List Addr} {n : Nat} {c : Int} {P : Nat → Value → Prop} {St : Nat → Heap → Prop} {old : Value} {f : Bool} {Q : Option Value → Shared → Prop}
    (D : Draws prog w A.in1 it fp n P St) (he : IsEnumHeld s.heap e it c old T f) (hst : St n s.heap) (hQ : ∀ h', Heap.ExtBut it s.heap h' → Q none { s with heap := h' }) : wpAny (model prog w) A (pyNext (.ref e)) Q E s := by
  have hTy : s.TypeIs (.ref e) "enumerate" := ⟨_, he, rfl⟩
  unfold pyNext
  refine wpAny_bind (wpAny_attempt (wpAny_callSpecial?_slot (name := Str.ofString "__next__") hTy F.slot_enumerate_next
    (wpAny_call_entry F.slot_enumerate_next hTy F.entry_enumerate_next ?_ (F.args_enumerate_next_1 _))))
  show wpAny _ _ (field (.ref e) 2 >>= _) _ _ _
  refine wpAny_bind (wpAny_field he rfl (x := .ref it) rfl ?_)
  refine wpAny_bind (D.done s _ _ hst fun h' x he' hx' => ?_)
  obtain ⟨o, ho, hc⟩ := hx'
  refine wpAny_bind (wpAny_isInstance (T := "StopIteration") (b := true) ⟨o, ho, hc⟩ isSubtype_stop ?_)
  exact wpAny_pure (hQ _ he')
/-- zip of two drawn iterators, the tuple out -/
theorem my_zip_item_held {z TI TO T i1 i2 : Addr} {fp1 fp2 : List Addr} {n1 n2 i : Nat} {P1 P2 : Nat → Value → Prop} {St1 St2 : Nat → Heap → Prop} {f : Bool} {oT : Obj} {Q : Value → Shared → Prop} (S : ZipSep2 z TI TO i1 i2 fp1 fp2)
    (D1 : Draws prog w A i1 fp1 n1 P1 St1) (D2 : Draws prog w A i2 fp2 n2 P2 St2) (hz : IsZipHeld s.heap z TI TO T f) (hT : s.heap.get? T = some oT) (hTI : IsTupOf2 s.heap TI (.ref i1) (.ref i2)) (st1 : St1 i s.heap) (st2 : St2 i s.heap) (hlt1 : i < n1) (hlt2 : i < n2)
    (hQ : ∀ x1 x2 h' tk, P1 i x1 → P2 i x2 → IsZipHeld h' z TI TO T true → St1 (i + 1) h' → St2 (i + 1) h' → IsTupOf2 h' s.heap.objs.size x1 x2 → h'.objs.size = s.heap.objs.size + 1 →
      (∀ c o, c ≠ z → c ≠ i1 → c ≠ i2 → s.heap.get? c = some o → h'.get? c = some o) → Q (.ref s.heap.objs.size) { s with heap := h', toks := tk }) :
    wpAny (model prog w) A (Builtin.«zip.__next__» ⟨[.ref z], []⟩) (fun fin s' => ∃ v, fin = .done (.ret v) ∧ Q v s') E s := by
  obtain ⟨hp, g, d, tk0, os⟩ := s
  show wpAny _ _ (field (.ref z) 2 >>= _) _ _ _
  refine wpAny_bind (wpAny_field hz rfl (x := .bool false) rfl ?_)
  show wpAny _ _ (field (.ref z) 3 >>= _) _ _ _
  refine wpAny_bind (wpAny_field hz rfl (x := .ref TI) rfl ?_)
  refine wpAny_bind (wpAny_seqItems hTI rfl ?_)
  show wpAny _ _ (Builtin.SmallTypes.ownedTupleIsFree (.ref z) >>= _) _ _ _
  refine wpAny_bind (wpAny_tupleHeld_zip hz hT fun h₁ hz₁ hs₁ => ?_)
  replace hs₁ : Heap.SameBut z hp h₁ := hs₁
  simp only [Bool.false_eq_true, if_false]
  refine wpAny_bind ?_
  rw [← Array.forIn_toList]
  simp only [List.forIn_cons, List.forIn_nil]
  refine wpAny_bind (wpAny_bind (wpAny_holding ?_))
  show wpAny _ _ (Builtin.SmallTypes.nextOf (.ref i1) >>= _) _ _ _
  refine wpAny_bind (D1.item i _ _ _ hlt1 (D1.over st1 hs₁ S.zf1) fun x1 h₂ tk1 hx1 sn1 hs₂ => wpAny_pure ?_)
  replace hs₂ : Heap.SameBut i1 h₁ h₂ := hs₂
  refine wpAny_pure ?_
  refine wpAny_bind (wpAny_bind (wpAny_holding ?_))
  show wpAny _ _ (Builtin.SmallTypes.nextOf (.ref i2) >>= _) _ _ _
  refine wpAny_bind (D2.item i _ _ _ hlt2 (D2.over (D2.over st2 hs₁ S.zf2) hs₂ S.sep1_2) fun x2 h₃ tk2 hx2 sn2 hs₃ => wpAny_pure ?_)
  replace hs₃ : Heap.SameBut i2 h₂ h₃ := hs₃
  refine wpAny_pure (wpAny_pure ?_)
  show wpAny _ _ (newTuple [x1, x2] >>= _) _ _ _
  refine wpAny_bind (wpAny_newTuple ?_)
  have hsz : h₃.objs.size = hp.objs.size := by rw [hs₃.1, hs₂.1, hs₁.1]
  have hz₃ : IsZipHeld h₃ z TI TO T true := hs₃.extBut _ _ S.zi2 (hs₂.extBut _ _ S.zi1 hz₁)
  have hk : ∀ c o, c ≠ z → c ≠ i1 → c ≠ i2 → hp.get? c = some o → h₃.get? c = some o := fun c o c1 c2 c3 e => hs₃.extBut _ _ c3 (hs₂.extBut _ _ c2 (hs₁.extBut _ _ c1 e))
  have sn1' : St1 (i + 1) h₃ := D1.over sn1 hs₃ S.sep2_1
  refine wpAny_pure ⟨_, rfl, ?_⟩
  show Q (.ref h₃.objs.size) _
  have hp' : IsTupOf2 (h₃.push { cls := .type "tuple", data := .seq #[x1, x2] }) h₃.objs.size x1 x2 := Heap.get?_push_size _ rfl
  have hz4 : (h₃.push { cls := .type "tuple", data := .seq #[x1, x2] }).objs.size = h₃.objs.size + 1 := Heap.size_push ..
  rw [hsz] at hp' hz4 ⊢
  exact hQ x1 x2 _ tk2 hx1 hx2 (Heap.get?_push_of_some _ hz₃) (D1.frame _ _ _ sn1' fun b hb o e => Heap.get?_push_of_some _ e) (D2.frame _ _ _ sn2 fun b hb o e => Heap.get?_push_of_some _ e) hp' hz4 fun c o c1 c2 c3 e => Heap.get?_push_of_some _ (hk c o c1 c2 c3 e)
theorem my_zip_end_held {z TI TO T i1 i2 : Addr} {fp1 fp2 : List Addr} {n1 n2 i : Nat} {P1 P2 : Nat → Value → Prop} {St1 St2 : Nat → Heap → Prop} {f : Bool} {oT : Obj} {Q : Fin → Shared → Prop} (S : ZipSep2 z TI TO i1 i2 fp1 fp2)
    (D1 : Draws prog w A i1 fp1 n1 P1 St1) (D2 : Draws prog w A i2 fp2 n2 P2 St2) (hz : IsZipHeld s.heap z TI TO T f) (hT : s.heap.get? T = some oT) (hTI : IsTupOf2 s.heap TI (.ref i1) (.ref i2)) (st1 : St1 i s.heap) (st2 : St2 i s.heap) (hle1 : i ≤ n1) (hle2 : i ≤ n2) (hend : i = n1 ∨ i = n2)
    (hE : ∀ h' tk e, (∀ c o, c ≠ z → c ≠ i1 → c ≠ i2 → s.heap.get? c = some o → h'.get? c = some o) → (∃ o, h'.get? e = some o ∧ o.cls = .type "StopIteration") → E (.ref e) { s with heap := h', toks := tk }) :
    wpAny (model prog w) A (Builtin.«zip.__next__» ⟨[.ref z], []⟩) Q E s := by
  obtain ⟨hp, g, d, tk0, os⟩ := s
  show wpAny _ _ (field (.ref z) 2 >>= _) _ _ _
  refine wpAny_bind (wpAny_field hz rfl (x := .bool false) rfl ?_)
  show wpAny _ _ (field (.ref z) 3 >>= _) _ _ _
  refine wpAny_bind (wpAny_field hz rfl (x := .ref TI) rfl ?_)
  refine wpAny_bind (wpAny_seqItems hTI rfl ?_)
  show wpAny _ _ (Builtin.SmallTypes.ownedTupleIsFree (.ref z) >>= _) _ _ _
  refine wpAny_bind (wpAny_tupleHeld_zip hz hT fun h₁ hz₁ hs₁ => ?_)
  replace hs₁ : Heap.SameBut z hp h₁ := hs₁
  simp only [Bool.false_eq_true, if_false]
  refine wpAny_bind ?_
  rw [← Array.forIn_toList]
  simp only [List.forIn_cons, List.forIn_nil]
  refine wpAny_bind (wpAny_bind (wpAny_holding ?_))
  show wpAny _ _ (Builtin.SmallTypes.nextOf (.ref i1) >>= _) _ _ _
  by_cases h1 : i = n1
  · subst h1
    refine wpAny_bind (D1.done _ _ _ (D1.over st1 hs₁ S.zf1) fun h₂ e hs₂ he => ?_)
    exact hE h₂ _ e (fun c o c1 c2 _ x => hs₂ _ _ c2 (hs₁.extBut _ _ c1 x)) he
  have h2 : i = n2 := hend.resolve_left h1
  subst h2
  refine wpAny_bind (D1.item i _ _ _ (by omega) (D1.over st1 hs₁ S.zf1) fun x1 h₂ tk1 hx1 sn1 hs₂ => wpAny_pure ?_)
  replace hs₂ : Heap.SameBut i1 h₁ h₂ := hs₂
  refine wpAny_pure ?_
  refine wpAny_bind (wpAny_bind (wpAny_holding ?_))
  show wpAny _ _ (Builtin.SmallTypes.nextOf (.ref i2) >>= _) _ _ _
  refine wpAny_bind (D2.done _ _ _ (D2.over (D2.over st2 hs₁ S.zf2) hs₂ S.sep1_2) fun h₃ e hs₃ he => ?_)
  exact hE h₃ _ e (fun c o c1 c2 c3 x => hs₃ _ _ c3 (hs₂.extBut _ _ c2 (hs₁.extBut _ _ c1 x))) he
theorem my_pyNext_zip_item_held {z TI TO T i1 i2 : Addr} {fp1 fp2 : List Addr} {n1 n2 i : Nat} {P1 P2 : Nat → Value → Prop} {St1 St2 : Nat → Heap → Prop} {f : Bool} {oT : Obj} {Q : Option Value → Shared → Prop} (S : ZipSep2 z TI TO i1 i2 fp1 fp2)
    (D1 : Draws prog w A.in1 i1 fp1 n1 P1 St1) (D2 : Draws prog w A.in1 i2 fp2 n2 P2 St2) (hz : IsZipHeld s.heap z TI TO T f) (hT : s.heap.get? T = some oT) (hTI : IsTupOf2 s.heap TI (.ref i1) (.ref i2)) (st1 : St1 i s.heap) (st2 : St2 i s.heap) (hlt1 : i < n1) (hlt2 : i < n2)
    (hQ : ∀ x1 x2 h' tk, P1 i x1 → P2 i x2 → IsZipHeld h' z TI TO T true → St1 (i + 1) h' → St2 (i + 1) h' → IsTupOf2 h' s.heap.objs.size x1 x2 → h'.objs.size = s.heap.objs.size + 1 →
      (∀ c o, c ≠ z → c ≠ i1 → c ≠ i2 → s.heap.get? c = some o → h'.get? c = some o) → Q (some (.ref s.heap.objs.size)) { s with heap := h', toks := tk }) :
    wpAny (model prog w) A (pyNext (.ref z)) Q E s := by
  have hTy : s.TypeIs (.ref z) "zip" := ⟨_, hz, rfl⟩
  unfold pyNext
  exact wpAny_bind (wpAny_attempt (wpAny_callSpecial?_slot (name := Str.ofString "__next__") hTy F.slot_zip_next
    (wpAny_call_entry F.slot_zip_next hTy F.entry_zip_next
      (my_zip_item_held S D1 D2 hz hT hTI st1 st2 hlt1 hlt2 fun x1 x2 h' tk a0 a1 a2 a3 a4 a5 a6 a7 => wpAny_pure (hQ x1 x2 h' tk a0 a1 a2 a3 a4 a5 a6 a7)) (F.args_zip_next_1 _))))
theorem my_pyNext_zip_end_held {z TI TO T i1 i2 : Addr} {fp1 fp2 : List Addr} {n1 n2 i : Nat} {P1 P2 : Nat → Value → Prop} {St1 St2 : Nat → Heap → Prop} {f : Bool} {oT : Obj} {Q : Option Value → Shared → Prop} (S : ZipSep2 z TI TO i1 i2 fp1 fp2)
    (D1 : Draws prog w A.in1 i1 fp1 n1 P1 St1) (D2 : Draws prog w A.in1 i2 fp2 n2 P2 St2) (hz : IsZipHeld s.heap z TI TO T f) (hT : s.heap.get? T = some oT) (hTI : IsTupOf2 s.heap TI (.ref i1) (.ref i2)) (st1 : St1 i s.heap) (st2 : St2 i s.heap) (hle1 : i ≤ n1) (hle2 : i ≤ n2) (hend : i = n1 ∨ i = n2)
    (hQ : ∀ h' tk, (∀ c o, c ≠ z → c ≠ i1 → c ≠ i2 → s.heap.get? c = some o → h'.get? c = some o) → Q none { s with heap := h', toks := tk }) : wpAny (model prog w) A (pyNext (.ref z)) Q E s := by
  have hTy : s.TypeIs (.ref z) "zip" := ⟨_, hz, rfl⟩
  unfold pyNext
  refine wpAny_bind (wpAny_attempt (wpAny_callSpecial?_slot (name := Str.ofString "__next__") hTy F.slot_zip_next
    (wpAny_call_entry F.slot_zip_next hTy F.entry_zip_next (my_zip_end_held S D1 D2 hz hT hTI st1 st2 hle1 hle2 hend fun h' tk e hk he => ?_) (F.args_zip_next_1 _))))
  obtain ⟨o, ho, hc⟩ := he
  refine wpAny_bind (wpAny_isInstance (T := "StopIteration") (b := true) ⟨o, ho, hc⟩ isSubtype_stop ?_)
  exact wpAny_pure (hQ _ _ hk)
end
end PySem

/-! KitL3 -/
/-! list(enumerate(text)), list(zip(text, text)) -/
namespace PySem.W
open PySem PySem.Calls PyProof.Rows PyProof.V PySem.Spec
section
variable {prog : Program} {w : World} {A : Around} {E : Value → Shared → Prop} {s : Shared}
theorem iter_enumT {e : Addr} {Q : Value → Shared → Prop} (hT : s.TypeIs (.ref e) "enumerate") (h : Q (.ref e) s) : wpAny (model prog w) A (pyIter (.ref e)) Q E s := by
  refine wpAny_pyIter_slot hT PySem.F.slot_enumerate_iter (wpAny_call_entry PySem.F.slot_enumerate_iter hT PySem.F.entry_enumerate_iter ?_ (PySem.F.args_enumerate_iter_1 _))
  show wpAny _ _ (ret (.ref e)) _ _ s
  exact wpAny_pure ⟨_, rfl, "enumerate", _, hT, PySem.F.slot_enumerate_next.lookup, h⟩
theorem iter_zipT {z : Addr} {Q : Value → Shared → Prop} (hT : s.TypeIs (.ref z) "zip") (h : Q (.ref z) s) : wpAny (model prog w) A (pyIter (.ref z)) Q E s := by
  refine wpAny_pyIter_slot hT PySem.F.slot_zip_iter (wpAny_call_entry PySem.F.slot_zip_iter hT PySem.F.entry_zip_iter ?_ (PySem.F.args_zip_iter_1 _))
  show wpAny _ _ (ret (.ref z)) _ _ s
  exact wpAny_pure ⟨_, rfl, "zip", _, hT, PySem.F.slot_zip_next.lookup, h⟩
end
section
variable {prog : Program} {w : World} {A : Around}
def EnSt (e it : Addr) (St : Nat → Heap → Prop) (S : Addr) : Nat → Heap → Prop := fun i h => St i h ∧ ((∃ old, IsEnum h e it ((i : Nat) : Int) old) ∨ ∃ old T f oT, IsEnumHeld h e it ((i : Nat) : Int) old T f ∧ h.get? T = some oT ∧ T ≠ e ∧ T ≠ it ∧ T ≠ S)
theorem EnSt.type {e it S : Addr} {St : Nat → Heap → Prop} {i : Nat} {s : Shared} (h : EnSt e it St S i s.heap) : s.TypeIs (.ref e) "enumerate" := by
  rcases h.2 with ⟨_, he⟩ | ⟨_, _, _, _, he, _⟩
  · exact ⟨_, he, rfl⟩
  · exact ⟨_, he, rfl⟩
theorem lsrc_enum {e it S : Addr} {fp : List Addr} {n : Nat} {P : Nat → Value → Prop} {St : Nat → Heap → Prop} (D : Draws prog w A.in1 it fp n P St) (hei : e ≠ it) (hef : e ∉ fp) (hfS : ∀ b ∈ fp, b < S) (heS : e < S) (hiS : it < S) :
    LSrc prog w A e S [e, it] n (fun i k v => (∃ t, k = .int ((i : Nat) : Int) t) ∧ P i v) (EnSt e it St S) where
  low := fun b hb => by
    simp only [List.mem_cons, List.not_mem_nil, or_false] at hb
    rcases hb with rfl | rfl
    · exact heS
    · exact hiS
  frame := fun i h h' st hk => by
    obtain ⟨hst, he⟩ := st
    refine ⟨D.frame _ _ _ hst fun b hb o x => hk b o (Nat.ne_of_lt (hfS b hb)) x, ?_⟩
    rcases he with ⟨old, he⟩ | ⟨old, T, f, oT, he, hT, r1, r2, r3⟩
    · exact .inl ⟨old, hk _ _ (Nat.ne_of_lt heS) he⟩
    · exact .inr ⟨old, T, f, oT, hk _ _ (Nat.ne_of_lt heS) he, hk _ _ r3 hT, r1, r2, r3⟩
  item := fun i s Q E hi st hS hQ => by
    obtain ⟨hst, he⟩ := st
    have ec : ((i + 1 : Nat) : Int) = (i : Int) + 1 := by omega
    have nit : s.heap.objs.size ≠ it := by obtain ⟨_, x⟩ := D.live _ _ hst; exact Nat.ne_of_gt (Heap.lt_size x)
    rcases he with ⟨old, he⟩ | ⟨old, T, f, oT, he, hT, r1, r2, r3⟩
    · refine wpAny_pyNext_enum_itemC D he hst hi hei hef fun x h' tk hP ho hst' hT hsz hk => ?_
      exact hQ _ _ h' (tk + 1) ⟨⟨_, rfl⟩, hP⟩ hT ⟨hst', .inr ⟨_, s.heap.objs.size, false, _, (by rw [ec]; exact ho), hT, Nat.ne_of_gt (Heap.lt_size he), nit, Nat.ne_of_gt hS⟩⟩
        fun b o hb x => hk b o (fun y => hb (by simp [y])) (fun y => hb (by simp [y])) x
    · refine my_pyNext_enum_item_held D he hT r1 r2 hst hi hei hef fun x h' tk hP ho hst' hT' hsz hk => ?_
      exact hQ _ _ h' (tk + 1) ⟨⟨_, rfl⟩, hP⟩ hT' ⟨hst', .inr ⟨old, T, true, oT, (by rw [ec]; exact ho), hk _ _ r1 r2 hT, r1, r2, r3⟩⟩
        fun b o hb x => hk b o (fun y => hb (by simp [y])) (fun y => hb (by simp [y])) x
  done := fun s Q E st hQ => by
    obtain ⟨hst, he⟩ := st
    rcases he with ⟨old, he⟩ | ⟨old, T, f, oT, he, hT, r1, r2, r3⟩
    · exact wpAny_pyNext_enum_endD D he hst fun h' hk => hQ h' s.toks fun b o hb x => hk b o (fun y => hb (by simp [y])) x
    · exact my_pyNext_enum_end_held D he hst fun h' hk => hQ h' s.toks fun b o hb x => hk b o (fun y => hb (by simp [y])) x
def ZiSt (z TI TO i1 i2 : Addr) (St1 St2 : Nat → Heap → Prop) (S : Addr) : Nat → Heap → Prop := fun i h => IsTupOf2 h TI (.ref i1) (.ref i2) ∧ St1 i h ∧ St2 i h ∧
  ((IsZip h z TI TO .none ∧ ∃ a b, IsTupOf2 h TO a b) ∨ ∃ T f oT, IsZipHeld h z TI TO T f ∧ h.get? T = some oT ∧ T ≠ z ∧ T ≠ i1 ∧ T ≠ i2 ∧ T ≠ S)
theorem ZiSt.type {z TI TO i1 i2 S : Addr} {St1 St2 : Nat → Heap → Prop} {i : Nat} {s : Shared} (h : ZiSt z TI TO i1 i2 St1 St2 S i s.heap) : s.TypeIs (.ref z) "zip" := by
  rcases h.2.2.2 with ⟨he, _⟩ | ⟨_, _, _, he, _⟩
  · exact ⟨_, he, rfl⟩
  · exact ⟨_, he, rfl⟩
theorem lsrc_zip {z TI TO i1 i2 S : Addr} {fp1 fp2 : List Addr} {n1 n2 : Nat} {P1 P2 : Nat → Value → Prop} {St1 St2 : Nat → Heap → Prop} (D : ZipSep2 z TI TO i1 i2 fp1 fp2) (D1 : Draws prog w A.in1 i1 fp1 n1 P1 St1) (D2 : Draws prog w A.in1 i2 fp2 n2 P2 St2)
    (hf1 : ∀ b ∈ fp1, b < S) (hf2 : ∀ b ∈ fp2, b < S) (hz : z < S) (hTI : TI < S) (hTO : TO < S) :
    LSrc prog w A z S [z, TO, i1, i2] (min n1 n2) (fun i k v => P1 i k ∧ P2 i v) (ZiSt z TI TO i1 i2 St1 St2 S) where
  low := fun b hb => by
    simp only [List.mem_cons, List.not_mem_nil, or_false] at hb
    rcases hb with rfl | rfl | rfl | rfl
    · exact hz
    · exact hTO
    · exact hf1 _ D.mem1
    · exact hf2 _ D.mem2
  frame := fun i h h' st hk => by
    obtain ⟨h0, s1, s2, he⟩ := st
    refine ⟨hk _ _ (Nat.ne_of_lt hTI) h0, D1.frame _ _ _ s1 fun b hb o x => hk b o (Nat.ne_of_lt (hf1 b hb)) x, D2.frame _ _ _ s2 fun b hb o x => hk b o (Nat.ne_of_lt (hf2 b hb)) x, ?_⟩
    rcases he with ⟨he, a, b, ht⟩ | ⟨T, f, oT, he, hT, r1, r2, r3, r4⟩
    · exact .inl ⟨hk _ _ (Nat.ne_of_lt hz) he, a, b, hk _ _ (Nat.ne_of_lt hTO) ht⟩
    · exact .inr ⟨T, f, oT, hk _ _ (Nat.ne_of_lt hz) he, hk _ _ r4 hT, r1, r2, r3, r4⟩
  item := fun i s Q E hi st hS hQ => by
    obtain ⟨h0, s1, s2, he⟩ := st
    have lt : ∀ {c o}, s.heap.get? c = some o → s.heap.objs.size ≠ c := fun e => Nat.ne_of_gt (Heap.lt_size e)
    have l1 : s.heap.objs.size ≠ i1 := by obtain ⟨_, e⟩ := D1.live _ _ s1; exact lt e
    have l2 : s.heap.objs.size ≠ i2 := by obtain ⟨_, e⟩ := D2.live _ _ s2; exact lt e
    have hi1 : i < n1 := by omega
    have hi2 : i < n2 := by omega
    rcases he with ⟨he, a, b, ht⟩ | ⟨T, f, oT, he, hT, r1, r2, r3, r4⟩
    · refine wpAny_pyNext_zipD2_item D D1 D2 he h0 ht s1 s2 hi1 hi2 fun x1 x2 h' tk y1 y2 b1 b2 d1 d2 b5 b6 hk => ?_
      exact hQ x1 x2 h' tk ⟨y1, y2⟩ b5 ⟨hk _ _ D.TIz D.TITO D.TIi1 D.TIi2 h0, d1, d2, .inr ⟨s.heap.objs.size, false, _, b1, b5, lt he, l1, l2, Nat.ne_of_gt hS⟩⟩
        fun b o hb x => hk b o (fun y => hb (by simp [y])) (fun y => hb (by simp [y])) (fun y => hb (by simp [y])) (fun y => hb (by simp [y])) x
    · refine my_pyNext_zip_item_held D D1 D2 he hT h0 s1 s2 hi1 hi2 fun x1 x2 h' tk y1 y2 b1 d1 d2 b5 b6 hk => ?_
      exact hQ x1 x2 h' tk ⟨y1, y2⟩ b5 ⟨hk _ _ D.TIz D.TIi1 D.TIi2 h0, d1, d2, .inr ⟨T, true, oT, b1, hk _ _ r1 r2 r3 hT, r1, r2, r3, r4⟩⟩
        fun b o hb x => hk b o (fun y => hb (by simp [y])) (fun y => hb (by simp [y])) (fun y => hb (by simp [y])) x
  done := fun s Q E st hQ => by
    obtain ⟨h0, s1, s2, he⟩ := st
    rcases he with ⟨he, a, b, ht⟩ | ⟨T, f, oT, he, hT, r1, r2, r3, r4⟩
    · exact wpAny_pyNext_zipD2_end D D1 D2 he h0 ht s1 s2 (by omega) (by omega) (by omega) fun h' tk hk => hQ h' tk fun b o hb x => hk b o (fun y => hb (by simp [y])) (fun y => hb (by simp [y])) (fun y => hb (by simp [y])) (fun y => hb (by simp [y])) x
    · exact my_pyNext_zip_end_held D D1 D2 he hT h0 s1 s2 (by omega) (by omega) (by omega) fun h' tk hk => hQ h' tk fun b o hb x => hk b o (fun y => hb (by simp [y])) (fun y => hb (by simp [y])) (fun y => hb (by simp [y])) x
end
end PySem.W
namespace My
open PySem PySem.Spec PyProof.Rows L2
/-- a list of new pairs -/
def NewPairs (H : Hp) (n : Nat) (f : Nat → V × V) (C : Addr → Hp → Prop) : Prop := ∀ (H' : Hp) (p : Addr) (ts : List Addr), Same H H' → H p = none → (∀ t ∈ ts, H t = none) → p ∉ ts → ts.Nodup → ts.length = n → H' p = some (.lst (ts.map V.ref)) →
  (∀ i t, ts[i]? = some t → H' t = some (.tup [(f i).1, (f i).2])) → C p H'
section
variable {X : Cx} {pins : List (Addr × Obj)} {σ : L2.St} {H : Hp} {s : Shared} {h' : Heap} {tk : Nat}
theorem idx_nd : ∀ {as : List Addr} {i : Nat} {t : Addr}, as.Nodup → as[i]? = some t → as.idxOf t = i
  | a :: as, 0, t, _, h => by
    have : a = t := Option.some.inj h
    rw [this]; simp
  | a :: as, i + 1, t, nd, h => by
    have nd' := List.nodup_cons.mp nd
    have h' : as[i]? = some t := h
    have ne : a ≠ t := fun z => nd'.1 (z ▸ List.mem_of_getElem? h')
    have e := idx_nd nd'.2 h'
    rw [List.idxOf_cons, e]
    have : (a == t) = false := by simp [ne]
    rw [this]; rfl
theorem pairs_laid {Rel : Nat → Value → Value → Prop} {n c : Nat} {acc : Array Value} {as : List Addr} {S : Addr} {f : Nat → V × V} (I : Inv X pins σ H s) (hz : n ≤ sizeLine) (hrel : ∀ j k v, j < n → Rel j k v → RelV (f j).1 k ∧ RelV (f j).2 v)
    (hk : ∀ b o, s.heap.get? b = some o → h'.get? b = some o) (hlo : s.heap.objs.size ≤ S) (hS : h'.get? S = some { cls := .type "list", dict := none, data := .seq acc c, slots := #[] }) (hl : as.length = n) (hG : PySem.W.PlG Rel S h' as) (hacc : acc.toList = as.map Value.ref) :
    ∃ H' : Hp, Same H H' ∧ H S = none ∧ (∀ t ∈ as, H t = none) ∧ S ∉ as ∧ as.Nodup ∧ H' S = some (.lst (as.map V.ref)) ∧ (∀ i t, as[i]? = some t → H' t = some (.tup [(f i).1, (f i).2])) ∧ Inv X pins σ H' { s with heap := h', toks := tk } := by
  have hSn : S ∉ as := fun z => Nat.lt_irrefl _ (hG.above _ z)
  have nd : as.Nodup := List.Pairwise.imp (fun {a b} (h : a < b) => Nat.ne_of_lt h) hG.rise
  have new : ∀ t ∈ as, H t = none := fun t ht => I.hok.fresh (Nat.le_trans hlo (Nat.le_of_lt (hG.above t ht)))
  have newS : H S = none := I.hok.fresh hlo
  let H' : Hp := fun b => if b = S then some (.lst (as.map V.ref)) else if b ∈ as then some (.tup [(f (as.idxOf b)).1, (f (as.idxOf b)).2]) else H b
  have off : ∀ b, b ∉ as → b ≠ S → H' b = H b := fun b h1 h2 => by show (if b = S then _ else _) = _; rw [if_neg h2, if_neg h1]
  have low : ∀ b o, s.heap.get? b = some o → b ∉ as ∧ b ≠ S := fun b o e => ⟨fun z => absurd (Heap.lt_size e) (Nat.not_lt.mpr (Nat.le_trans hlo (Nat.le_of_lt (hG.above b z)))), fun z => absurd (Heap.lt_size e) (Nat.not_lt.mpr (z ▸ hlo))⟩
  have kp : ∀ b u, H b = some u → H' b = some u := fun b u e => by
    rw [off b (fun z => by rw [new b z] at e; cases e) (fun z => by rw [z, newS] at e; cases e)]
    exact e
  have eS : H' S = some (.lst (as.map V.ref)) := if_pos rfl
  have eT : ∀ i t, as[i]? = some t → H' t = some (.tup [(f i).1, (f i).2]) := fun i t e => by
    have m := List.mem_of_getElem? e
    show (if t = S then _ else _) = _
    rw [if_neg (fun z => hSn (by rw [← z]; exact m)), if_pos m, idx_nd nd e]
  refine ⟨H', kp, newS, new, hSn, nd, eS, eT, ?_⟩
  refine I.call' (ch := []) rfl ⟨fun b o q _ _ _ => hk b o q, fun b o q _ _ _ => ⟨o.slots, hk b o q⟩, fun b o q n _ => ?_, fun b o q _ => ⟨o, hk b o q⟩, fun b xs q => kp b _ q, fun b o u q => kp b _ q, fun b ps q => ⟨#[], by rw [kp b _ q]; simp⟩⟩ (fun b u q => ?_) I.bare fun b z => by simp at z
  · obtain ⟨z1, z2⟩ := low b o q
    rw [off b z1 z2]
    exact n
  · by_cases hb : b ∈ as
    · obtain ⟨j, e1⟩ := List.mem_iff_getElem?.mp hb
      have e3 := eT j b e1
      rw [e3] at q
      cases q
      obtain ⟨key, x, f1, f2⟩ := hG.pairs j b e1
      obtain ⟨g1, g2⟩ := hrel j key x (by have := (List.getElem?_eq_some_iff.mp e1).1; omega) f1
      exact ⟨by show 2 ≤ sizeLine; decide, [key, x], .cons g1 (.cons g2 .nil), ⟨_, f2, rfl, _, rfl⟩⟩
    · by_cases hb2 : b = S
      · rw [hb2] at q ⊢
        rw [eS] at q
        cases q
        refine ⟨by rw [List.length_map]; omega, acc.toList, c, by rw [hacc]; exact LiI.vals_refs as, ?_⟩
        rw [Array.toArray_toList]
        exact hS
      · rw [off b hb hb2] at q
        exact (I.hok b u q).stay (fun d v _ y => hk d v y) (fun d y => kp d _ y) fun d xs y => kp d _ y
end
def sgn (z : Str) (i : Nat) : V := .str ⟨#[z.cps.getD i 0]⟩
/-- list(enumerate(text)) -/
def tListEnS (te : TE) : TE := fun σ H Q => te σ H fun x H1 => ∃ z : Str, x = .str z ∧ z.length ≤ sizeLine ∧ NewPairs H1 z.length (fun i => (.int (i : Nat), sgn z i)) fun p H' => Q (.ref p) H'
/-- list(zip(text, text)) -/
def tListZiS (ta tb : TE) : TE := fun σ H Q => ta σ H fun x H1 => tb σ H1 fun y H2 => ∃ z z' : Str, x = .str z ∧ y = .str z' ∧ z.length ≤ sizeLine ∧ NewPairs H2 (min z.length z'.length) (fun i => (sgn z i, sgn z' i)) fun p H' => Q (.ref p) H'
section
variable {X : Cx} {e : Expr} {te : TE} {p p2 pos pos2 : Pos}
theorem pe_listEnS (hc : X.calm = true) (he : PE X e te) (hgl : Gl X "list") (hml : X.mg "list" = none) (hge : Gl X "enumerate") (hme : X.mg "enumerate" = none)
    (hs : starEach [.Call (.Name "enumerate" p2) [e] [] pos2] X.env = (false, eval (.Call (.Name "enumerate" p2) [e] [] pos2) X.env) :: starEach [] X.env := by rfl)
    (na : starEach [e] X.env = (false, eval e X.env) :: starEach [] X.env := by rfl) :
    PE X (.Call (.Name "list" p) [.Call (.Name "enumerate" p2) [e] [] pos2] [] pos) (tListEnS te) := by
  refine ⟨fun pins s σ H Q I hq => ?_⟩
  refine wpAny_Call_Name_kw (ld_blt I hgl hml boot_list ?_)
  refine PyProof.Rows.callWith_type1 ?_ hs rfl
  rw [hs]
  show wpAny _ _ (spliced ((false, eval (.Call (.Name "enumerate" p2) [e] [] pos2) X.env) :: backTo pos (starEach [] X.env))) _ _ s
  refine Calls.spliced_cons ?_
  refine Call_ (ld_blt I hge hme boot_enumerate (PyProof.Rows.callWith_type1 (one_arg he I hq (fun v s2 x H2 I2 r q => ?_) na) na))
  obtain ⟨z, rfl, hz, q⟩ := q
  obtain ⟨t, rfl⟩ := r
  refine call_enumerate_str fun h0 hen hit hsz hk0 => ?_
  refine Calls.spliced_nil ?_
  have I3 : Inv X pins σ H2 { s2 with heap := h0 } := I2.kept (t' := s2.toks) hk0
  have D : Draws X.prog X.w X.A.in1.in1.in1 s2.heap.objs.size [s2.heap.objs.size] z.cps.size (fun i v => ∃ c u, z.cps[i]? = some c ∧ v = .str ⟨#[c]⟩ u) (fun i h => h.IsStrIter s2.heap.objs.size (strIterType z) z t i) := Draws.text (show X.A.in1.in1.in1.handled = none from I2.ok.hd hc) _ z t
  have big : s2.heap.objs.size + 1 < h0.objs.size := by rw [hsz]; exact Nat.lt_succ_self _
  refine PySem.W.pl_call (St := PySem.W.EnSt (s2.heap.objs.size + 1) s2.heap.objs.size (fun i h => h.IsStrIter s2.heap.objs.size (strIterType z) z t i)) (s := { s2 with heap := h0 }) PySem.W.enumerate_no_len PySem.W.enumerate_no_hint (by decide) (by decide)
    (fun S hS => PySem.W.lsrc_enum (A := X.A.in1.in1) D (Nat.succ_ne_self _) (by simp) (fun b hb => ?_) (Nat.lt_of_lt_of_le big hS) (Nat.lt_of_lt_of_le (Nat.lt_of_succ_lt big) hS)) (fun S s' h => PySem.W.EnSt.type h) big (fun S s' E' Q' h q' => PySem.W.iter_enumT (PySem.W.EnSt.type h) q') (fun S h' hS hk' => ?_) hz (fun h' tk acc c as hk hS hl hG hacc => ?_)
  · rw [List.mem_singleton.mp hb]
    exact Nat.lt_of_lt_of_le (Nat.lt_of_succ_lt big) hS
  · exact ⟨let ⟨o, ho, r⟩ := hit; ⟨o, hk' _ _ ho, r⟩, .inl ⟨_, hk' _ _ hen⟩⟩
  · have hkk : ∀ b o, s2.heap.get? b = some o → h'.get? b = some o := fun b o e => by
      refine hk b o (fun m => ?_) (hk0 b o e)
      have lb := Heap.lt_size e
      simp only [List.mem_cons, List.not_mem_nil, or_false] at m
      rcases m with m | m
      · exact absurd lb (by rw [m]; exact Nat.not_lt.mpr (Nat.le_succ _))
      · exact absurd lb (by rw [m]; exact Nat.lt_irrefl _)
    have hrel : ∀ j k v, j < z.length → ((∃ t, k = .int ((j : Nat) : Int) t) ∧ ∃ c u, z.cps[j]? = some c ∧ v = Value.str ⟨#[c]⟩ u) → RelV (.int ((j : Nat) : Int)) k ∧ RelV (sgn z j) v := fun j k v _ hr => by
      obtain ⟨⟨u, rfl⟩, cc, u2, e1, rfl⟩ := hr
      refine ⟨⟨_, rfl⟩, u2, ?_⟩
      show Value.str ⟨#[cc]⟩ u2 = Value.str ⟨#[z.cps.getD j 0]⟩ u2
      rw [Array.getD_eq_getD_getElem?, e1]; rfl
    obtain ⟨H', k1, k2, k3, k4, k5, k6, k7, J⟩ := pairs_laid (s := s2) (h' := h') (tk := tk) (n := z.length) (f := fun i => (.int (i : Nat), sgn z i)) I2 hz hrel hkk (by show s2.heap.objs.size ≤ h0.objs.size; rw [hsz]; exact Nat.le_add_right _ _) hS hl hG hacc
    exact ⟨.ref _, H', J, rfl, q H' _ as k1 k2 k3 k4 k5 hl k6 k7⟩
theorem pe_listZiS {b : Expr} {tb : TE} (hc : X.calm = true) (he : PE X e te) (hb : PE X b tb) (hgl : Gl X "list") (hml : X.mg "list" = none) (hge : Gl X "zip") (hme : X.mg "zip" = none)
    (hs : starEach [.Call (.Name "zip" p2) [e, b] [] pos2] X.env = (false, eval (.Call (.Name "zip" p2) [e, b] [] pos2) X.env) :: starEach [] X.env := by rfl)
    (na : starEach [e, b] X.env = (false, eval e X.env) :: starEach [b] X.env := by rfl) (nb : starEach [b] X.env = (false, eval b X.env) :: starEach [] X.env := by rfl) (hp : (backTo pos2 (starEach [b] X.env)).any (·.1) = false := by rfl) :
    PE X (.Call (.Name "list" p) [.Call (.Name "zip" p2) [e, b] [] pos2] [] pos) (tListZiS te tb) := by
  refine ⟨fun pins s σ H Q I hq => ?_⟩
  refine wpAny_Call_Name_kw (ld_blt I hgl hml boot_list ?_)
  refine PyProof.Rows.callWith_type1 ?_ hs rfl
  rw [hs]
  show wpAny _ _ (spliced ((false, eval (.Call (.Name "zip" p2) [e, b] [] pos2) X.env) :: backTo pos (starEach [] X.env))) _ _ s
  refine Calls.spliced_cons ?_
  refine Call_ (ld_blt I hge hme (show bootBuiltins ("zip" : Str) = some (.type "zip") by decide +kernel) (PyProof.Rows.callWith_type1 (args_cons (thn (he.run pins s σ H _ I hq) fun v s1 ⟨x, H1, I1, r1, q1⟩ => one_arg hb I1 q1 (fun u s2 y H2 I2 r2 q => ?_) nb) na) na hp))
  obtain ⟨z, z', rfl, rfl, hz, q⟩ := q
  obtain ⟨t, rfl⟩ := r1
  obtain ⟨t', rfl⟩ := r2
  refine zip_begins2 (begins_text z t) (begins_text z' t') trivial trivial fun h0 hzip hTI hTO ho1 ho2 hsz hk0 => ?_
  refine Calls.spliced_nil ?_
  have hh : X.A.in1.in1.in1.handled = none := I2.ok.hd hc
  have D1 := Draws.text (prog := X.prog) (w := X.w) hh s2.heap.objs.size z t
  have D2 := Draws.text (prog := X.prog) (w := X.w) hh (s2.heap.objs.size + 1) z' t'
  have Sp : ZipSep2 (s2.heap.objs.size + 4) (s2.heap.objs.size + 2) (s2.heap.objs.size + 3) s2.heap.objs.size (s2.heap.objs.size + 1) [s2.heap.objs.size] [s2.heap.objs.size + 1] := zip_sep2 (by simp) (by simp)
  have it1 : h0.IsStrIter s2.heap.objs.size (strIterType z) z t 0 := ⟨_, ho1, rfl, rfl⟩
  have it2 : h0.IsStrIter (s2.heap.objs.size + 1) (strIterType z') z' t' 0 := ⟨_, ho2, rfl, rfl⟩
  have bigE : h0.objs.size = s2.heap.objs.size + 5 := hsz
  have ltn : ∀ k, k < 5 → s2.heap.objs.size + k < h0.objs.size := fun k hk => by rw [bigE]; exact Nat.add_lt_add_left hk _
  have lt0 : s2.heap.objs.size < h0.objs.size := ltn 0 (by decide)
  refine PySem.W.pl_call (St := PySem.W.ZiSt (s2.heap.objs.size + 4) (s2.heap.objs.size + 2) (s2.heap.objs.size + 3) s2.heap.objs.size (s2.heap.objs.size + 1) (fun i h => h.IsStrIter s2.heap.objs.size (strIterType z) z t i) (fun i h => h.IsStrIter (s2.heap.objs.size + 1) (strIterType z') z' t' i)) (s := { s2 with heap := h0 }) PySem.W.zip_no_len PySem.W.zip_no_hint (by decide) (by decide)
    (fun S hS => PySem.W.lsrc_zip (A := X.A.in1.in1) Sp D1 D2 (fun b hb => ?_) (fun b hb => ?_) (Nat.lt_of_lt_of_le (ltn 4 (by decide)) hS) (Nat.lt_of_lt_of_le (ltn 2 (by decide)) hS) (Nat.lt_of_lt_of_le (ltn 3 (by decide)) hS)) (fun S s' h => PySem.W.ZiSt.type h) (ltn 4 (by decide)) (fun S s' E' Q' h q' => PySem.W.iter_zipT (PySem.W.ZiSt.type h) q') (fun S h' hS hk' => ?_) (Nat.le_trans (Nat.min_le_left ..) hz) (fun h' tk acc c as hk hS hl hG hacc => ?_)
  · rw [List.mem_singleton.mp hb]
    exact Nat.lt_of_lt_of_le lt0 hS
  · rw [List.mem_singleton.mp hb]
    exact Nat.lt_of_lt_of_le (ltn 1 (by decide)) hS
  · exact ⟨hk' _ _ hTI, (let ⟨o, ho, r⟩ := it1; ⟨o, hk' _ _ ho, r⟩), (let ⟨o, ho, r⟩ := it2; ⟨o, hk' _ _ ho, r⟩), .inl ⟨hk' _ _ hzip, _, _, hk' _ _ hTO⟩⟩
  · have hkk : ∀ b o, s2.heap.get? b = some o → h'.get? b = some o := fun b o e => by
      refine hk b o (fun m => ?_) (hk0 b o e)
      have lb := Heap.lt_size e
      simp only [List.mem_cons, List.not_mem_nil, or_false] at m
      rcases m with m | m | m | m
      · exact absurd lb (by rw [m]; exact Nat.not_lt.mpr (Nat.le_add_right _ _))
      · exact absurd lb (by rw [m]; exact Nat.not_lt.mpr (Nat.le_add_right _ _))
      · exact absurd lb (by rw [m]; exact Nat.lt_irrefl _)
      · exact absurd lb (by rw [m]; exact Nat.not_lt.mpr (Nat.le_succ _))
    have hrel : ∀ j k v, j < min z.length z'.length → ((∃ c u, z.cps[j]? = some c ∧ k = Value.str ⟨#[c]⟩ u) ∧ ∃ c u, z'.cps[j]? = some c ∧ v = Value.str ⟨#[c]⟩ u) → RelV (sgn z j) k ∧ RelV (sgn z' j) v := fun j k v _ hr => by
      obtain ⟨⟨c1, u1, e1, rfl⟩, c2, u2, e2, rfl⟩ := hr
      refine ⟨⟨u1, ?_⟩, u2, ?_⟩
      · show Value.str ⟨#[c1]⟩ u1 = Value.str ⟨#[z.cps.getD j 0]⟩ u1
        rw [Array.getD_eq_getD_getElem?, e1]; rfl
      · show Value.str ⟨#[c2]⟩ u2 = Value.str ⟨#[z'.cps.getD j 0]⟩ u2
        rw [Array.getD_eq_getD_getElem?, e2]; rfl
    obtain ⟨H', k1, k2, k3, k4, k5, k6, k7, J⟩ := pairs_laid (s := s2) (h' := h') (tk := tk) (n := min z.length z'.length) (f := fun i => (sgn z i, sgn z' i)) I2 (Nat.le_trans (Nat.min_le_left ..) hz) hrel hkk (Nat.le_of_lt lt0) hS hl hG hacc
    exact ⟨.ref _, H', J, rfl, q H' _ as k1 k2 k3 k4 k5 hl k6 k7⟩
end
end My

/-! KitL4 -/
/-! text[::-1], list.extend(tuple), for over zip of rows and texts in any mix, tuple(d.values()) -/
namespace PySem
open Sem (wp)
open AutoSeq1
theorem my_extend_tup (l : Addr) (items : Array Value) (n : Nat) (b : Addr) (items2 : Array Value) (n2 : Nat) (dct : Option Addr) (sl : Array (Option Value)) (hs0 : ¬(!items.isEmpty && Builtin.List.listTooLong (items.size + items2.size)) = true) (hs1 : items.size ≤ sizeLine) (hs2 : items.size + items2.size ≤ sizeLine + 1 := by seq_fits) :
    Meets (Builtin.«list.extend» ⟨[.ref l, .ref b], []⟩) (fun _ R s => s.heap.get? l = some { cls := .type "list", dict := none, data := .seq items n, slots := #[] } ∧ s.heap.get? b = some { cls := .type "tuple", dict := dct, data := .seq items2 n2, slots := sl } ∧ R (.ok (.ret Value.none)) { s with heap := s.heap.update l (Obj.mapSeq fun x => x ++ items2), toks := s.toks }) :=
  .of_wp fun prog w A R s h => by
    obtain ⟨hp, g, d, tk, os⟩ := s; obtain ⟨hl, hb, h⟩ := h; have f1 := idx_int; have f2 := sub_tuple_tuple; have f3 := sub_list_list; have f4 := sub_tuple_list; have f5 := sub_list_tuple;
    have hz' : (items ++ items2).size ≤ sizeLine + 1 := by rw [Array.size_append]; exact hs2
    wp_walk using (wpAny_updateSeq hl rfl (hz := hs1) (_hz' := hz')), wpAny_loadPart' hl, wpAny_loadPart' hb; exact ⟨_, rfl, h⟩
end PySem
namespace My
open PySem PySem.Spec PyProof.Rows L2
def revS (z : Str) : Str := ⟨z.cps.toList.reverse.toArray⟩
theorem revS_len (z : Str) : (revS z).length = z.length := by
  show (z.cps.toList.reverse.toArray).size = z.cps.size
  rw [List.size_toArray, List.length_reverse, Array.length_toList]
theorem picked_rev (z : Str) : ((Builtin.Str.strSliceIndices none none (-1) z.length).filterMap (z.cps[·]?)).toArray = z.cps.toList.reverse.toArray := by
  have e : Builtin.Str.strSliceIndices none none (-1) z.length = (List.range z.length).reverse := by
    show sliceRange (if (-1 : Int) > 0 then 0 else (z.length : Int) - 1) (if (-1 : Int) > 0 then (z.length : Int) else -1) (-1) = _
    rw [if_neg (by decide), if_neg (by decide), PySem.W.krv_sliceRange, PySem.W.krv_range]
  rw [e, List.filterMap_reverse]
  have := PySem.W.krv_all z.cps
  rw [show (List.range z.length).filterMap (z.cps[·]?) = z.cps.toList from this]
def tRevS (te : TE) : TE := fun σ H Q => te σ H fun x H1 => ∃ z, x = .str z ∧ z.length ≤ sizeLine ∧ Q (.str (revS z)) H1
section
variable {X : Cx}
theorem pe_revS {e : Expr} {te : TE} {k : Nat} {p1 p2 p3 pos : Pos} (he : PE X e te) : PE X (.Subscript e (.Slice none none (some (.UnaryOp .USub (.Constant (.int 1) k p1) p2)) p3) pos) (tRevS te) := by
  refine ⟨fun pins s σ H Q I h => ?_⟩
  refine Subscript_ (thn (he.run pins s σ H _ I h) fun v s1 ⟨x, H1, I1, r1, q1⟩ => ?_)
  obtain ⟨z, ex, hz, q⟩ := q1
  subst ex
  obtain ⟨t, rfl⟩ := r1
  have hst : PO X (some (.UnaryOp .USub (.Constant (.int 1) k p1) p2)) (tPart (tUn (rU fun i => .int (-i)) (tC (.int 1)))) := po_some (pe_un un_neg pe_int)
  refine wpAny_Slice (thn (po_none.run pins s1 σ H1 (fun o H2 => o = none ∧ H2 = H1) I1 ⟨rfl, rfl⟩) fun vl s2 ⟨l, H2, I2, pl, el, e2⟩ => ?_)
  subst el e2
  refine thn (po_none.run pins s2 σ H2 (fun o H3 => o = none ∧ H3 = H2) I2 ⟨rfl, rfl⟩) fun vu s3 ⟨u, H3, I3, pu, eu, e3⟩ => ?_
  subst eu e3
  refine thn (hst.run pins s3 σ H3 (fun o H4 => o = some (-1) ∧ H4 = H3) I3 ⟨1, rfl, -1, rfl, rfl, rfl⟩) fun vs s4 ⟨o, H4, I4, ps, eo, e4⟩ => ?_
  subst eo e4
  have I5 : Inv X pins σ H4 { s4 with heap := s4.heap.push { cls := .type "slice", data := .fields #[vl, vu, vs] } } := I4.kept (t' := s4.toks) fun b ob q => Heap.get?_push_of_some _ q
  obtain ⟨l', rfl, el⟩ := IsPart.raw pl
  obtain ⟨u', rfl, eu⟩ := IsPart.raw pu
  obtain ⟨st', rfl, es⟩ := IsPart.raw ps
  show wpAny (model X.prog X.w) X.A (subscriptTail e (.Slice none none (some (.UnaryOp .USub (.Constant (.int 1) k p1) p2)) p3) (.str z t) (.ref s4.heap.objs.size)) (EP X pins σ Q) X.xe { s4 with heap := s4.heap.push { cls := .type "slice", data := .fields #[partValue l', partValue u', partValue st'] } }
  refine tail_any (ops := [.str z t, .ref s4.heap.objs.size]) (T := "str") (typeIs_str _ _ _) F.slot_str_getitem.lookup ?_ (by with_unfolding_all rfl)
  refine wpAny_getItem_str_slice (l := l') (u := u') (st := st') ⟨_, Heap.get?_push_size _ rfl, rfl, rfl⟩ (by rw [es]; rfl) ?_
  unfold sliceMade slicePicked
  rw [el, eu, es]
  have hne : ¬ (((some (-1 : Int)).getD 1 == 1 && (Builtin.Str.strSliceIndices none none ((some (-1 : Int)).getD 1) z.length).length == z.length) = true) := by
    show ¬ (((-1 : Int) == 1 && _) = true)
    rw [show ((-1 : Int) == 1) = false by decide, Bool.false_and]
    exact Bool.false_ne_true
  rw [if_neg hne]
  show (Made.str ⟨((Builtin.Str.strSliceIndices none none (-1) z.length).filterMap (z.cps[·]?)).toArray⟩).post (EP X pins σ Q) _
  rw [picked_rev]
  exact ⟨by rw [show (⟨z.cps.toList.reverse.toArray⟩ : Str) = revS z from rfl, revS_len]; exact hz, .str _, H4, I5.tok _, ⟨_, rfl⟩, q⟩
/-- xs.extend(t), t a tuple -/
def rExtendT (K : PySem.W.Frag) : V → List V → Hp → VK → Prop := fun x vs H Q => ∃ l b xs zs, x = .ref l ∧ vs = [.ref b] ∧ H l = some (.lst xs) ∧ H b = some (.tup zs) ∧ xs.length + zs.length ≤ sizeLine ∧ Q .non (upd H l (.lst (xs ++ zs)))
theorem mt_extendT : MtM X "list.extend" (rExtendT X.K) := by
  intro pins s σ H x vs v us Q I rx rv h
  obtain ⟨l, b, xs, zs, rfl, rfl, hH, hB, hz, q⟩ := h
  cases rx
  obtain ⟨u, rfl, ru⟩ := rv.one
  cases ru
  obtain ⟨z, its, n, r, hl, e⟩ := I.lstM hH
  obtain ⟨its2, r2, pl2, hz2⟩ := I.tuple (SqT.of (K := X.K) hB)
  have hl2 := r2.length
  obtain ⟨⟨c2, d2, dt2, sl2⟩, e2, hc2, n2, hdd2⟩ := pl2
  dsimp only at hc2 hdd2
  subst hc2 hdd2
  have hsz : its.toArray.size + its2.toArray.size ≤ sizeLine := by rw [List.size_toArray, List.size_toArray]; omega
  have hlong : ¬ (!its.toArray.isEmpty && Builtin.List.listTooLong (its.toArray.size + its2.toArray.size)) = true := by
    rw [notLongL hsz, Bool.and_false]
    exact Bool.false_ne_true
  refine call_meets F.slot_list_extend ⟨_, e, rfl⟩ F.entry_list_extend (F.args_list_extend_2 _ _)
    (my_extend_tup l its.toArray n b its2.toArray n2 d2 sl2 hlong (by rw [List.size_toArray]; omega) (by omega)) ⟨e, e2, ?_⟩
  refine ⟨.non, _, I.lset (its' := its ++ its2) hH e (by simp) (r.append r2) ?_, rfl, q⟩
  rw [List.length_append]
  omega
end
end My

/-! KitL5 -/
/-! for over zip(x, y), each a row or a text -/
namespace My
open PySem PySem.Spec PyProof.Rows L2
/-- the signs of a text -/
def sigs (z : Str) : List V := z.cps.toList.map fun c => V.str ⟨#[c]⟩
theorem sigs_len (z : Str) : (sigs z).length = z.cps.size := by unfold sigs; rw [List.length_map, Array.length_toList]
theorem sigs_at (z : Str) (i : Nat) : (sigs z)[i]? = z.cps[i]?.map fun c => V.str ⟨#[c]⟩ := by unfold sigs; rw [List.getElem?_map, Array.getElem?_toList]
inductive Kd where
  | lst (a : Addr) | tup (a : Addr) | txt (z : Str) (t : Tok)
def Kd.off (N : Nat) : Kd → Prop | .lst a => a < N | .tup a => a < N | .txt _ _ => True
def Kd.it (h : Heap) (j : Addr) (i : Nat) : Kd → Prop | .lst a => h.IsListIter j a i | .tup a => h.IsTupleIter j a i | .txt z t => h.IsStrIter j (strIterType z) z t i
def Kd.fp (j : Addr) : Kd → List Addr | .lst a => [j, a] | .tup a => [j, a] | .txt _ _ => [j]
def Kd.own : Kd → List Addr | .lst a => [a] | .tup a => [a] | .txt _ _ => []
def Kd.src (H : Hp) (xs : List V) : Kd → Prop | .lst a => H a = some (.lst xs) | .tup a => H a = some (.tup xs) | .txt z _ => xs = sigs z
theorem Kd.fp_own (j : Addr) (k : Kd) : k.fp j = j :: k.own := by cases k <;> rfl
theorem Kd.it_keep {h h' : Heap} {j : Addr} {i : Nat} {k : Kd} (x : k.it h j i) (e : ∀ o, h.get? j = some o → h'.get? j = some o) : k.it h' j i := by
  cases k with
  | lst a => obtain ⟨o, ho, r⟩ := x; exact ⟨o, e o ho, r⟩
  | tup a => obtain ⟨o, ho, r⟩ := x; exact ⟨o, e o ho, r⟩
  | txt z t => obtain ⟨o, ho, r⟩ := x; exact ⟨o, e o ho, r⟩
theorem Kd.it_obj {h : Heap} {j : Addr} {i : Nat} {k : Kd} (x : k.it h j i) : ∃ o, h.get? j = some o ∧ ∀ v, o.data ≠ .cell v := by
  cases k with
  | lst a => obtain ⟨o, ho, _, d⟩ := x; exact ⟨o, ho, fun v q => by rw [d] at q; cases q⟩
  | tup a => obtain ⟨o, ho, _, d⟩ := x; exact ⟨o, ho, fun v q => by rw [d] at q; cases q⟩
  | txt z t => obtain ⟨o, ho, _, d⟩ := x; exact ⟨o, ho, fun v q => by rw [d] at q; cases q⟩
/-- what such an iterator draws -/
theorem Kd.draws {X : Cx} {pins : List (Addr × Obj)} {σ : L2.St} {H : Hp} {s : Shared} {A : Around} (I : Inv X pins σ H s) (hh : A.handled = none) {k : Kd} {xs : List V} (hs : k.src H xs) {j : Addr} {i : Nat} (hi : k.it s.heap j i) (hj : ∀ a ∈ k.own, a ≠ j) :
    ∃ (P : Nat → Value → Prop) (St : Nat → Heap → Prop), Draws X.prog X.w A j (k.fp j) xs.length P St ∧ St i s.heap ∧ (∀ m h, St m h → k.it h j m) ∧ ∀ m v, P m v → ∃ x, xs[m]? = some x ∧ RelV x v := by
  cases k with
  | lst a =>
    obtain ⟨its, rv, p, hz⟩ := I.list (SqL.of (K := X.K) (show H a = some (.lst xs) from hs))
    have hl := rv.length
    have D := Draws.list (prog := X.prog) (w := X.w) hh j a (hj a (by simp [Kd.own])) its.toArray
    rw [show its.toArray.size = xs.length by rw [List.size_toArray]; omega] at D
    refine ⟨_, _, D, ⟨hi, p.isList⟩, fun m h x => x.1, fun m v e => ?_⟩
    have e' : its[m]? = some v := by simpa using e
    have hm : m < xs.length := by have := (List.getElem?_eq_some_iff.mp e').1; omega
    obtain ⟨u, hu, ru⟩ := rv.get (List.getElem?_eq_getElem hm)
    rw [e'] at hu; cases hu
    exact ⟨_, List.getElem?_eq_getElem hm, ru⟩
  | tup a =>
    obtain ⟨its, rv, p, hz⟩ := I.tuple (SqT.of (K := X.K) (show H a = some (.tup xs) from hs))
    have hl := rv.length
    have D := Draws.tuple (prog := X.prog) (w := X.w) hh j a (hj a (by simp [Kd.own])) its.toArray
    rw [show its.toArray.size = xs.length by rw [List.size_toArray]; omega] at D
    refine ⟨_, _, D, ⟨hi, p⟩, fun m h x => x.1, fun m v e => ?_⟩
    have e' : its[m]? = some v := by simpa using e
    have hm : m < xs.length := by have := (List.getElem?_eq_some_iff.mp e').1; omega
    obtain ⟨u, hu, ru⟩ := rv.get (List.getElem?_eq_getElem hm)
    rw [e'] at hu; cases hu
    exact ⟨_, List.getElem?_eq_getElem hm, ru⟩
  | txt z t =>
    obtain rfl : xs = sigs z := hs
    have D := Draws.text (prog := X.prog) (w := X.w) hh j z t
    rw [← sigs_len] at D
    refine ⟨_, _, D, hi, fun m h x => x, fun m v e => ?_⟩
    obtain ⟨c, u, e1, rfl⟩ := e
    exact ⟨.str ⟨#[c]⟩, by rw [sigs_at, e1]; rfl, u, rfl⟩
/-- both as they stand at each turn, the items in new pairs -/
def ItzG (k1 k2 : Kd) (xs ys : List V) : It :=
  ⟨fun i H => k1.src H xs ∧ k2.src H ys ∧ i < min xs.length ys.length,
    fun i H v H' => ∃ T x y, v = .ref T ∧ H T = none ∧ H' = upd H T (.tup [x, y]) ∧ xs[i]? = some x ∧ ys[i]? = some y,
    fun i H => k1.src H xs ∧ k2.src H ys ∧ i = min xs.length ys.length⟩
theorem walk_zipG {k1 k2 : Kd} {xs ys : List V} : Walk (ItzG k1 k2 xs ys) (min xs.length ys.length) (fun H => k1.src H xs ∧ k2.src H ys) (YPair (fun i => xs[i]?) (fun i => ys[i]?)) :=
  ⟨fun i _ hi q => ⟨q.1, q.2, hi⟩, fun _ q => ⟨q.1, q.2, rfl⟩, fun _ _ _ _ _ _ y => y⟩
theorem turn_zipG {P : Program} {w : World} {K : PySem.W.Frag} {elts : List Expr} {kk : Nat} {tpos : Pos} {z TI TO i1 i2 : Addr} {k1 k2 : Kd} {xs ys : List V} (D : ZipSep2 z TI TO i1 i2 (k1.fp i1) (k2.fp i2)) (ho1 : ∀ a ∈ k1.own, a ≠ i1) (ho2 : ∀ a ∈ k2.own, a ≠ i2) :
    Turn P w K (.Tuple elts kk tpos) (ItzG k1 k2 xs ys) [z, TI, TO, i1, i2] z (fun i h => IsZip h z TI TO .none ∧ IsTupOf2 h TI (.ref i1) (.ref i2) ∧ (∃ x y, IsTupOf2 h TO x y) ∧ k1.it h i1 i ∧ k2.it h i2 i) where
  mem := by simp
  obj := fun i h st c hc => by
    obtain ⟨hz, hTI, ⟨x, y, hTO⟩, h1, h2⟩ := st
    have e' : c = z ∨ c = TI ∨ c = TO ∨ c = i1 ∨ c = i2 := by simpa using hc
    rcases e' with q | q | q | q | q
    · rw [q]; exact ⟨_, hz, fun v q => nomatch q⟩
    · rw [q]; exact ⟨_, hTI, fun v q => nomatch q⟩
    · rw [q]; exact ⟨_, hTO, fun v q => nomatch q⟩
    · rw [q]; exact Kd.it_obj h1
    · rw [q]; exact Kd.it_obj h2
  keep := fun i h h' st k => by
    obtain ⟨hz, hTI, ⟨x, y, hTO⟩, h1, h2⟩ := st
    exact ⟨k z (by simp) _ hz, k TI (by simp) _ hTI, ⟨x, y, k TO (by simp) _ hTO⟩, Kd.it_keep h1 fun o q => k i1 (by simp) o q, Kd.it_keep h2 fun o q => k i2 (by simp) o q⟩
  item := by
    intro X hP hw hK hc i pins s σ H E I hf st hg
    subst hP hw hK
    obtain ⟨hz, hTI, ⟨x0, y0, hTO⟩, h1, h2⟩ := st
    obtain ⟨hqx, hqy, hlt⟩ := hg
    have hh : X.A.in1.handled = none := I.ok.hd hc
    obtain ⟨P1, St1, D1, s1, b1, r1⟩ := Kd.draws (A := X.A.in1) I hh hqx h1 ho1
    obtain ⟨P2, St2, D2, s2, b2, r2⟩ := Kd.draws (A := X.A.in1) I hh hqy h2 ho2
    have hzl : z < s.heap.objs.size := Heap.lt_size hz
    refine wpAny_pyNext_zipD2_item D D1 D2 hz hTI hTO s1 s2 (by omega) (by omega) fun u u2 h' tk q1 q2 z' TO' h1' h2' hT hsz hk => ?_
    obtain ⟨x, hx, ru⟩ := r1 i u q1
    obtain ⟨y, hy, ru2⟩ := r2 i u2 q2
    refine ⟨_, rfl, wpAny_letOwnedTupleGo_zip (s := { s with heap := h', toks := tk }) z' fun h'' z'' sb => ?_⟩
    have hT2 : h''.get? s.heap.objs.size = some { cls := .type "tuple", data := .seq #[u, u2] } := (sb.2 _ (Nat.ne_of_gt hzl)).trans hT
    have new : ObjOk X.prog X.w (upd H s.heap.objs.size (.tup [x, y])) h'' s.heap.objs.size (.tup [x, y]) :=
      ⟨by show 2 ≤ sizeLine; decide, [u, u2], .cons ru (.cons ru2 .nil), ⟨_, hT2, rfl, _, rfl⟩⟩
    have I1 : Inv X pins σ (upd H s.heap.objs.size (.tup [x, y])) { s with heap := h'', toks := tk } :=
      I.turnedNew (t' := tk) (ch := [z, TI, TO, i1, i2]) (fun c o hb q => (sb.2 c (fun q' => hb (by simp [q']))).trans (hk c o (fun q' => hb (by simp [q'])) (fun q' => hb (by simp [q'])) (fun q' => hb (by simp [q'])) (fun q' => hb (by simp [q'])) q)) hf (Nat.le_refl _) new
    refine ⟨.ref s.heap.objs.size, _, I1, rfl, ⟨_, x, y, rfl, I.hok.fresh (Nat.le_refl _), rfl, hx, hy⟩, ⟨z'', ?_, ⟨u, u2, ?_⟩, ?_, ?_⟩, fun c hcm => ?_⟩
    · exact (sb.2 _ D.TIz).trans (hk _ _ D.TIz D.TITO D.TIi1 D.TIi2 hTI)
    · exact (sb.2 _ D.TOz).trans TO'
    · exact Kd.it_keep (b1 _ _ h1') fun o q => (sb.2 _ (Ne.symm D.zi1)).trans q
    · exact Kd.it_keep (b2 _ _ h2') fun o q => (sb.2 _ (Ne.symm D.zi2)).trans q
    · have hlt : c < s.heap.objs.size := by
        have e' : c = z ∨ c = TI ∨ c = TO ∨ c = i1 ∨ c = i2 := by simpa using hcm
        rcases e' with q | q | q | q | q
        · rw [q]; exact hzl
        · rw [q]; exact Heap.lt_size hTI
        · rw [q]; exact Heap.lt_size hTO
        · rw [q]; obtain ⟨_, e1, _⟩ := Kd.it_obj h1; exact Heap.lt_size e1
        · rw [q]; obtain ⟨_, e2, _⟩ := Kd.it_obj h2; exact Heap.lt_size e2
      rw [upd_ne (Nat.ne_of_lt hlt)]
      exact (hf c hcm).1
  done := by
    intro X hP hw hK hc i pins s σ H E I hf st hg
    subst hP hw hK
    obtain ⟨hz, hTI, ⟨x0, y0, hTO⟩, h1, h2⟩ := st
    obtain ⟨hqx, hqy, hend⟩ := hg
    have hh : X.A.in1.handled = none := I.ok.hd hc
    obtain ⟨P1, St1, D1, s1, b1, r1⟩ := Kd.draws (A := X.A.in1) I hh hqx h1 ho1
    obtain ⟨P2, St2, D2, s2, b2, r2⟩ := Kd.draws (A := X.A.in1) I hh hqy h2 ho2
    exact wpAny_pyNext_zipD2_end D D1 D2 hz hTI hTO s1 s2 (by omega) (by omega) (by omega) fun h' tk hk => ⟨rfl, I.turnedL (t' := tk) (ch := [z, TI, TO, i1, i2]) (fun c o hb q =>
      hk c o (fun q' => hb (by simp [q'])) (fun q' => hb (by simp [q'])) (fun q' => hb (by simp [q'])) (fun q' => hb (by simp [q'])) q) hf⟩
  self := fun A i s Q E st h => wpAny_pyIter_zip st.1 h
/-- what is walked: a row or a text -/
def SeqV (H : Hp) (x : V) (xs : List V) : Prop := (∃ a, x = .ref a ∧ Row H a xs) ∨ ∃ z, x = .str z ∧ xs = sigs z
def iZipG (ta : TA) : TI := fun σ H R => ta σ H fun vs H1 => ∃ (x y : V) (xs ys : List V), vs = [x, y] ∧ SeqV H1 x xs ∧ SeqV H1 y ys ∧
  ∀ (J : It) (G : Hp → Prop), Walk J (min xs.length ys.length) G (YPair (fun i => xs[i]?) (fun i => ys[i]?)) → (∀ H' : Hp, (∀ a, x = .ref a → H' a = H1 a) → (∀ a, y = .ref a → H' a = H1 a) → G H') → R J H1
structure SrcOk (X : Cx) (H : Hp) (s : Shared) (x : V) (u : Value) (xs : List V) (k : Kd) (o : Obj) (B : Heap → Prop) : Prop where
  begins : Begins u o B
  now : B s.heap
  off : k.off s.heap.objs.size
  src : ∀ H' : Hp, (∀ a, x = .ref a → H' a = H a) → k.src H' xs
  it : ∀ (h : Heap) (j : Addr), h.get? j = some o → k.it h j 0
theorem SeqV.ok {X : Cx} {pins : List (Addr × Obj)} {σ : L2.St} {H : Hp} {s : Shared} {x : V} {u : Value} {xs : List V} (I : Inv X pins σ H s) (r : RelV x u) (h : SeqV H x xs) : ∃ k o B, SrcOk X H s x u xs k o B := by
  rcases h with ⟨a, rfl, h | h⟩ | ⟨z, rfl, rfl⟩
  · obtain rfl : u = .ref a := r
    obtain ⟨its, rv, p, hz⟩ := I.list (SqL.of (K := X.K) h)
    exact ⟨.lst a, _, _, begins_list a its.toArray, p.isList, p.lt, fun H' e => (e a rfl).trans h, fun h' j e => ⟨_, e, rfl, rfl⟩⟩
  · obtain rfl : u = .ref a := r
    obtain ⟨its, rv, p, hz⟩ := I.tuple (SqT.of (K := X.K) h)
    exact ⟨.tup a, _, _, begins_tuple a its.toArray, p, (let ⟨_, e, _⟩ := id p; Heap.lt_size e), fun H' e => (e a rfl).trans h, fun h' j e => ⟨_, e, rfl, rfl⟩⟩
  · obtain ⟨t, rfl⟩ := r
    exact ⟨.txt z t, _, _, begins_text z t, trivial, trivial, fun _ _ => rfl, fun h' j e => ⟨_, e, rfl, rfl⟩⟩
theorem Kd.own_lt {N : Nat} {k : Kd} (h : k.off N) : ∀ a ∈ k.own, a < N := by
  cases k with
  | lst b => intro a m; rw [List.mem_singleton.mp m]; exact h
  | tup b => intro a m; rw [List.mem_singleton.mp m]; exact h
  | txt z t => intro a m; cases m
theorem pi_zipG {X : Cx} {e e2 : Expr} {ta : TA} {p pos tpos : Pos} {elts : List Expr} {kk : Nat} (hg : Gl X "zip") (hm : X.mg "zip" = none) (ha : PA X [e, e2] ta)
    (hs : starEach [e, e2] X.env = (false, eval e X.env) :: starEach [e2] X.env := by rfl) (hpl : (backTo pos (starEach [e2] X.env)).any (·.1) = false := by rfl) :
    PI X (.Tuple elts kk tpos) (.Call (.Name "zip" p) [e, e2] [] pos) (iZipG ta) := by
  refine ⟨fun pins s σ H R I h => ?_⟩
  refine Call_ (ld_blt I hg hm PyProof.Rows.boot_zip (PyProof.Rows.callWith_type1 (thn (ha.run pos pins s σ H _ I h) fun us s1 ⟨vs, H1, I1, r1, q1⟩ => ?_) hs hpl))
  obtain ⟨x, y, xs, ys, ex, hx, hy, q⟩ := q1
  subst ex
  cases r1 with
  | cons r rr =>
    cases rr with
    | cons r' rr =>
      cases rr
      obtain ⟨k1, o1, B1, S1⟩ := hx.ok I1 r
      obtain ⟨k2, o2, B2, S2⟩ := hy.ok I1 r'
      have fresh5 : ∀ c, c ∈ [s1.heap.objs.size + 4, s1.heap.objs.size + 2, s1.heap.objs.size + 3, s1.heap.objs.size, s1.heap.objs.size + 1] → FpOk X pins H1 c := fun c hcm => by
        have e' : c = s1.heap.objs.size + 4 ∨ c = s1.heap.objs.size + 2 ∨ c = s1.heap.objs.size + 3 ∨ c = s1.heap.objs.size ∨ c = s1.heap.objs.size + 1 := by simpa using hcm
        have hle : s1.heap.objs.size ≤ c := by
          rcases e' with z | z | z | z | z
          · rw [z]; exact Nat.le_add_right _ _
          · rw [z]; exact Nat.le_add_right _ _
          · rw [z]; exact Nat.le_add_right _ _
          · rw [z]; exact Nat.le_refl _
          · rw [z]; exact Nat.le_add_right _ _
        exact I1.fpOk hle (I1.hok.fresh hle)
      refine zip_begins2 S1.begins S2.begins S1.now S2.now fun h' hz hTI hTO ho1 ho2 hsz hk => wpAny_pyIter_zip hz ?_
      have I2 : Inv X pins σ H1 { s1 with heap := h' } := I1.kept (t' := s1.toks) hk
      have D : ZipSep2 (s1.heap.objs.size + 4) (s1.heap.objs.size + 2) (s1.heap.objs.size + 3) s1.heap.objs.size (s1.heap.objs.size + 1) (k1.fp s1.heap.objs.size) (k2.fp (s1.heap.objs.size + 1)) := by
        rw [Kd.fp_own, Kd.fp_own]
        exact zip_sep2 (Kd.own_lt S1.off) (Kd.own_lt S2.off)
      exact ⟨s1.heap.objs.size + 4, [s1.heap.objs.size + 4, s1.heap.objs.size + 2, s1.heap.objs.size + 3, s1.heap.objs.size, s1.heap.objs.size + 1], _, _, H1, rfl, I2,
        turn_zipG (k1 := k1) (k2 := k2) (xs := xs) (ys := ys) D (fun a m => Nat.ne_of_lt (Kd.own_lt S1.off a m)) (fun a m => Nat.ne_of_lt (Nat.lt_of_lt_of_le (Kd.own_lt S2.off a m) (Nat.le_succ _))),
        ⟨hz, hTI, ⟨_, _, hTO⟩, S1.it _ _ ho1, S2.it _ _ ho2⟩, fresh5, q _ _ walk_zipG fun H' e1 e2 => ⟨S1.src H' e1, S2.src H' e2⟩⟩
end My

/-! KitL6 -/
/-! tuple(d.values()) -/
namespace PySem.W
open PySem PySem.Calls PyProof.Rows PyProof.V PySem.Spec
section
variable {prog : Program} {w : World} {A : Around} {E : Value → Shared → Prop} {s : Shared} {T : String} {r d : Addr} {n : Nat} {P : Nat → Value → Prop} {OK : Heap → Prop}
theorem collect_src {Q : List Value → Shared → Prop} (K : KdlSrc prog w T r d n P OK) (hh : A.handled = none) (hok : OK s.heap) (hn : n ≤ sizeLine)
    (hQ : ∀ (h' : Heap) (tk : Nat) (acc : Array Value), (∀ b o, s.heap.get? b = some o → h'.get? b = some o) → ItemsOf P acc n → Q acc.toList { s with heap := h', toks := tk }) :
    wpAny (model prog w) A (collect (.ref r)) Q E s := by
  unfold collect
  refine wpAny_bind (wpAny_runValue (codeAny_builtin PySem.F.entry_proto_collect ?_))
  rw [Around.under_plainId PySem.F.plain_proto_collect _]
  show wpAny _ A.in1 (newList [] >>= fun l => again (.builtin "list.__iadd__" ⟨[l, .ref r], []⟩)) _ _ s
  refine wpAny_bind (wpAny_newObj_type ?_)
  refine wpAny_pure ⟨plainId_quiet PySem.F.plain_list_iadd _, codeAny_builtin PySem.F.entry_list_iadd ?_⟩
  rw [Around.under_plainId PySem.F.plain_list_iadd _]
  show wpAny _ A.in1 (Builtin.List.listExtendWith (.ref s.heap.objs.size) (.ref r) (.ref s.heap.objs.size)) _ _ _
  have hS : (s.heap.push { cls := .type "list", data := .seq ([] : List Value).toArray }).get? s.heap.objs.size = some { cls := .type "list", data := .seq #[] 0 } := Heap.get?_push_size _ rfl
  have th := K.there _ hok
  refine wpAny_mono (kdl_extend (A := A) (R := fun rr s' => rr = .ok (.ret (.ref s.heap.objs.size)) ∧ ∃ (h' : Heap) (tk : Nat) (acc : Array Value) (c' : Nat), s' = { s with heap := h', toks := tk } ∧
      (∀ b o, s.heap.get? b = some o → h'.get? b = some o) ∧ h'.get? s.heap.objs.size = some { cls := .type "list", dict := none, data := .seq acc c', slots := #[] } ∧ ItemsOf P acc n)
    (s := { s with heap := s.heap.push { cls := .type "list", data := .seq ([] : List Value).toArray } }) K hh (K.keep _ _ hok fun b _ o e => Heap.get?_push_of_some _ e) s.heap.objs.size (Nat.ne_of_gt th.1) (Nat.ne_of_gt th.2) _ 0 hS
    (fun h' tk acc c' hk e hi => ⟨rfl, h', tk, acc, c', rfl, fun b o q => hk b o (Nat.ne_of_lt (Heap.lt_size q)) (Heap.get?_push_of_some _ q), e, hi⟩) hn) (fun fin s' h => ?_) (fun e s' h => ?_)
  · cases fin with
    | done f =>
      obtain ⟨e, h', tk, acc, c', rfl, hk, hS', hi⟩ := h
      cases e
      show wpAny _ A (load s.heap.objs.size >>= _) _ _ _
      exact wpAny_bind (wpAny_load hS' (wpAny_pure (hQ h' tk acc hk hi)))
    | again c' =>
      refine ⟨h.1, codeAny_mono h.2 fun rr s'' hr' => ?_⟩
      obtain ⟨rfl, h', tk, acc, c', rfl, hk, hS', hi⟩ := hr'
      show wpAny _ A (load s.heap.objs.size >>= _) _ _ _
      exact wpAny_bind (wpAny_load hS' (wpAny_pure (hQ h' tk acc hk hi)))
  · exact absurd h.1 (by simp)
theorem code_tuple_new_vals {Q₁ : Value → Shared → Prop} (K : KdlSrc prog w "dict_values" r d n P OK) (hh : A.handled = none) (hok : OK s.heap) (hn : n ≤ sizeLine)
    (h : ∀ (h' : Heap) (tk : Nat) (acc : Array Value), (∀ b o, s.heap.get? b = some o → h'.get? b = some o) → ItemsOf P acc n →
      Q₁ (.ref h'.objs.size) { s with heap := h'.push { cls := .type "tuple", data := .seq acc }, toks := tk }) :
    codeAny (model prog w) A (.call (.builtin "tuple.__new__") ⟨[.type "tuple", .ref r], []⟩) (wants Q₁ E) s := by
  refine codeAny_of_tree ?_
  show wpAny _ A.in1 (do checkBuiltinCall "tuple.__new__" ⟨[.type "tuple", .ref r], []⟩; again (.builtin "tuple.__new__" ⟨[.type "tuple", .ref r], []⟩)) _ _ s
  refine wpAny_bind (wpAny_of_eq (PySem.F.newCall_tuple_1 _) (wpAny_pure ⟨plainId_quiet PySem.F.plain_tuple_new _, codeAny_builtin PySem.F.entry_tuple_new ?_⟩))
  rw [Around.under_plainId PySem.F.plain_tuple_new _]
  have hsub := sub_tuple_self
  have hinit := init_tuple_lookup
  have hmh := madeHere_tuple
  have hTI : s.TypeIs (.ref r) "dict_values" := K.type s hok
  have hh1 : A.in1.handled = none := hh
  wp_walk using wpAny_typeOf hTI, collect_src (A := A.in1) K hh1 hok hn
  intro h' tk acc hk hacc
  show wpAny _ _ (Builtin.Tuple.tupleExact acc.toList.toArray >>= fun v => ret v) _ _ _
  unfold Builtin.Tuple.tupleExact
  refine wpAny_bind (wpAny_newObj_type ?_ (by show acc.toList.toArray.size ≤ sizeLine; simp only [Array.toArray_toList]; rw [hacc.1]; exact hn))
  refine wpAny_pure ?_
  have e : acc.toList.toArray = acc := by simp
  rw [e]
  exact h h' tk acc hk hacc
theorem call_tuple_vals {Q : Value → Shared → Prop} (K : KdlSrc prog w "dict_values" r d n P OK) (hh : A.handled = none) (hok : OK s.heap) (hn : n ≤ sizeLine)
    (hQ : ∀ (h' : Heap) (tk : Nat) (acc : Array Value), (∀ b o, s.heap.get? b = some o → h'.get? b = some o) → ItemsOf P acc n →
      Q (.ref h'.objs.size) { s with heap := h'.push { cls := .type "tuple", data := .seq acc }, toks := tk }) :
    wpAny (model prog w) A (call (.type "tuple") [.ref r]) Q E s := by
  refine callType_codes (Q₁ := fun obj s₁ => s₁.TypeIs obj "tuple" ∧ Q obj s₁) PySem.F.called_tuple (PySem.F.typeCall_tuple_1 _) PySem.F.entry_object_init
    (code_tuple_new_vals (A := A.in1) K hh hok hn fun h' tk acc hk hacc => ⟨⟨_, Heap.get?_push_size _ rfl, rfl⟩, hQ h' tk acc hk hacc⟩) fun obj s₁ h₁ => ?_
  exact ⟨h₁.1, PySem.F.args_object_init_2 obj _, object_init_meets PySem.F.called_tuple.init.lookup PySem.F.called_tuple.made (by decide) prog w A.in1 _ s₁ ⟨h₁.1, rfl, h₁.2⟩⟩
end
end PySem.W
namespace My
open PySem PySem.Spec PyProof.Rows L2
def tTupVals (te : TE) : TE := fun σ H Q => te σ H fun x H1 => ∃ (d : Addr) (kvs : List (Key × V)), x = .ref d ∧ H1 d = some (.dK kvs) ∧ ∀ q, H1 q = none → Q (.ref q) (upd H1 q (.tup (kvs.map Prod.snd)))
section
variable {X : Cx} {e : Expr} {te : TE} {p apos cpos pos : Pos}
theorem vals_by {kvs : List (Key × V)} {vs : List (Key × Value)} {acc : Array Value} (kv : KV kvs vs) (h : ItemsOf (fun i v => ∃ k, vs[i]? = some (k, v)) acc vs.length) : Vals (kvs.map Prod.snd) acc.toList := by
  have lk : kvs.length = vs.length := Paired.length kv
  have ea : acc.toList = vs.map Prod.snd := by
    apply List.ext_getElem?
    intro j
    rw [List.getElem?_map]
    cases hj : acc.toList[j]? with
    | none =>
      have h1 := List.getElem?_eq_none_iff.mp hj
      rw [Array.length_toList, h.1] at h1
      rw [List.getElem?_eq_none h1]; rfl
    | some v =>
      obtain ⟨k, e⟩ := h.2 j v (by rw [← Array.getElem?_toList]; exact hj)
      rw [e]; rfl
  rw [ea]
  clear ea h lk
  induction kv with
  | nil => exact .nil
  | cons h t ih => exact .cons h.2 ih
theorem pe_tupVals (hc : X.calm = true) (he : PE X e te) (hg : Gl X "tuple") (hm : X.mg "tuple" = none) (hbase : attributeBase e "values" X.env (eval e X.env) = eval e X.env := by rfl) (hline : (apos.endLine == cpos.line) = true := by rfl)
    (hs : starEach [.Call (.Attribute e "values" apos) [] [] cpos] X.env = (false, eval (.Call (.Attribute e "values" apos) [] [] cpos) X.env) :: starEach [] X.env := by rfl) :
    PE X (.Call (.Name "tuple" p) [.Call (.Attribute e "values" apos) [] [] cpos] [] pos) (tTupVals te) := by
  refine ⟨fun pins s σ H Q I hq => ?_⟩
  refine wpAny_Call_Name_kw (ld_blt I hg hm boot_tuple ?_)
  refine PyProof.Rows.callWith_type1 ?_ hs rfl
  rw [hs]
  show wpAny _ _ (spliced ((false, eval (.Call (.Attribute e "values" apos) [] [] cpos) X.env) :: backTo pos (starEach [] X.env))) _ _ s
  refine Calls.spliced_cons ?_
  refine wpAny_Call_method (T := "dict") (id := "dict.values") hbase rfl hline F.plainAttrs_dict F.slot_dict_values F.type_dict_values (thn (he.run pins s σ H _ I hq) fun u s1 ⟨x, H1, I1, rx, d, kvs, ex, hd, q⟩ => ?_)
  subst ex
  obtain rfl : u = Value.ref d := rx
  obtain ⟨hz, hs0, vs, kv, hdo⟩ := I1.hok d _ hd
  obtain ⟨ep, hat⟩ := hdo.dictAt
  have lk : kvs.length = vs.length := Paired.length kv
  refine ⟨hdo.typeIs, hdo.mapOf.noDict, ?_⟩
  show wpAny _ _ (callWith cpos (.builtin "dict.values") [.ref d] [] []) _ X.xe s1
  refine method_meetsIn F.slot_dict_values F.entry_dict_values rfl (PySem.evalArgs_none ⟨rfl, hdo.typeIs, F.args_dict_values_1 _, _, meets_dict_values (mixKind X.prog X.w) d hs0, ⟨vs, hdo⟩, ?_⟩)
  refine Calls.spliced_nil ?_
  have I2 : Inv X pins σ H1 { s1 with heap := s1.heap.push { cls := .type "dict_values", data := .fields #[.ref d] } } := I1.kept (t' := s1.toks) fun b ob q => Heap.get?_push_of_some _ q
  refine PySem.W.call_tuple_vals (s := { s1 with heap := s1.heap.push { cls := .type "dict_values", data := .fields #[.ref d] } }) (PySem.W.kdl_values (knd := mixKind X.prog X.w) (kvs := vs) (ep := ep)) (I1.ok.hd hc) ⟨⟨_, Heap.get?_push_size _ rfl, rfl, rfl⟩, hat.push _⟩ (by omega) fun h' tk acc hk hacc => ?_
  have I3 : Inv X pins σ H1 { s1 with heap := h', toks := tk } := I2.kept (t' := tk) hk
  have rv := vals_by kv hacc
  refine ⟨.ref _, _, I3.laid (t' := tk) (o := .tup (kvs.map Prod.snd)) (fun b ob q => Heap.get?_push_of_some _ q) (Nat.le_refl _) ?_, rfl, q _ (I3.hok.fresh (Nat.le_refl _))⟩
  exact ⟨by rw [List.length_map]; exact hz, acc.toList, rv, _, Heap.get?_push_size _ rfl, rfl, 0, by simp⟩
end
end My

/-! KitL7 -/
/-! small words -/
namespace My
open PySem PySem.Spec PyProof.Rows L2
section
variable {X : Cx}
theorem pe_tr {e : Expr} {t t' : TE} (h : PE X e t) (q : t = t') : PE X e t' := q ▸ h
theorem pg_tr {e : Expr} {t t' : TG} (h : PG X e t) (q : t = t') : PG X e t' := q ▸ h
theorem pts_tr {e : List Expr} {t t' : TT} (h : PTs X e t) (q : t = t') : PTs X e t' := q ▸ h
/-- str of an int or a text -/
theorem call_strA : CallR X (.type "str") (fun xs H Q => (∃ i, xs = [.int i] ∧ i.natAbs.log2 < 1920 ∧ Q (.str (toString i)) H) ∨ ∃ a, xs = [.str a] ∧ Q (.str a) H) := by
  intro pins s σ H xs us Q I r h
  rcases h with h | h
  · exact call_str_int pins s σ H xs us Q I r h
  · exact SkE.call_str_str pins s σ H xs us Q I r h
theorem call_tupleS : CallR X (.type "tuple") (fun xs H Q => ∃ p ys, xs = [.ref p] ∧ ((SqL X.K H p ys ∧ ∀ l, H l = none → Q (.ref l) (upd H l (.tup ys))) ∨ (SqT X.K H p ys ∧ Q (.ref p) H))) := callR_imp call_tuple_of fun _ _ _ h => h
theorem call_tupleTT : CallR X (.type "tuple") (fun xs H Q => ∃ p ys, xs = [.ref p] ∧ SqT X.K H p ys ∧ Q (.ref p) H) := callR_imp call_tuple_of fun _ _ _ ⟨p, ys, e, h, q⟩ => ⟨p, ys, e, .inr ⟨h, q⟩⟩
end
/-- the scope of a comprehension; what a statement assigns -/
def cscope : Expr → Scope
  | .ListComp _ _ sc _ => sc
  | .DictComp _ _ _ sc _ => sc
  | _ => { kind := .function, names := [], isGenerator := false, isCoroutine := false }
def asgV : Stmt → Expr
  | .Assign _ v _ => v
  | _ => .Constant .none 0 ⟨0, 0, 0, 0⟩
open PySem in
theorem blk_rel {N : List Str} {sc scope : Scope} {own : List (Str × Nat)} {env : Env} (h : BlkOk N sc scope own) : BlkOk N (relabel sc env) scope own := by
  refine ⟨h.kind, h.uniq, h.ix, fun y hy hk => ?_, h.own⟩
  have := h.free y hy hk
  unfold relabel
  revert this
  show _ → List.lookup y.fst (sc.names.map _) = _ ∨ List.lookup y.fst (sc.names.map _) = _
  induction sc.names with
  | nil => exact id
  | cons q r ih =>
    obtain ⟨n, kd⟩ := q
    intro e
    rw [List.map_cons]
    rw [List.lookup_cons] at e
    dsimp only at e ⊢
    split
    · rename_i c
      have ck : kd = NameKind.free := by
        have := (Bool.and_eq_true _ _ ▸ (Bool.and_eq_true _ _ ▸ c).1).1
        exact eq_of_beq this
      rw [List.lookup_cons]
      cases b : (y.fst == n) with
      | true => exact .inl rfl
      | false => rw [b] at e; exact ih e
    · rw [List.lookup_cons]
      cases b : (y.fst == n) with
      | true => rw [b] at e; exact e
      | false => rw [b] at e; exact ih e
end My

/-! KitL8 -/
/-! a dict comprehension over anything that is walked -/
namespace My
open PySem L2
section
variable {J : It} {n : Nat} {G : Hp → Prop} {Y : Nat → Hp → V → Hp → Prop}
theorem dc_it (w : Walk J n G Y) {g : TG} {tt : TT} {tk tv : TE} {vs : List Nat} {σ : St} {H1 : Hp} {D : Addr} {Qd : Hp → Prop} (Pv : Nat → Hp → Prop) (h0 : Pv 0 (upd H1 D (.dK []))) (hG : ∀ i H, i ≤ n → Pv i H → G H)
    (hs : ∀ i x H H', i < n → Pv i H → Y i H x H' → g x (wipe σ vs) H' fun σ2 H2 => wipe σ2 vs = wipe σ vs ∧ tt σ2 H2 fun b H3 =>
      if b = true then tk σ2 H3 fun y H4 => tv σ2 H4 fun z H5 => ∃ kvs k, y = kV k ∧ H5 D = some (.dK kvs) ∧ kvs.length < sizeLine ∧ Pv (i + 1) (upd H5 D (.dK (putK kvs k z))) else Pv (i + 1) H3) (hd : ∀ H, Pv n H → Qd H) :
    ∃ W : Nat → Nat → Hp → Prop, (∃ m, W 0 m (upd H1 D (.dK []))) ∧ ∀ i m H, W i m H →
      (J.stop i H ∧ Qd H) ∨ (J.go i H ∧ ∃ Nx : Hp → Prop, (∀ H', Nx H' → ∃ m', m' < m ∧ W (i + 1) m' H') ∧ ∀ x H', J.yld i H x H' → g x (wipe σ vs) H' fun σ2 H2 => wipe σ2 vs = wipe σ vs ∧ tt σ2 H2 fun b H3 =>
        if b = true then tk σ2 H3 fun y H4 => tv σ2 H4 fun z H5 => ∃ kvs k, y = kV k ∧ H5 D = some (.dK kvs) ∧ kvs.length < sizeLine ∧ Nx (upd H5 D (.dK (putK kvs k z))) else Nx H3) := by
  refine ⟨fun i m H => m = n - i ∧ i ≤ n ∧ Pv i H, ⟨n, rfl, Nat.zero_le _, h0⟩, ?_⟩
  rintro i m H ⟨rfl, hi, p⟩
  have q := hG i H hi p
  rcases Nat.lt_or_ge i n with hlt | hge
  · exact .inr ⟨w.goes i H hlt q, Pv (i + 1), fun H' p' => ⟨n - (i + 1), by omega, rfl, hlt, p'⟩, fun x H' y => hs i x H H' hlt p (w.yields i H x H' hlt q y)⟩
  · obtain rfl : i = n := Nat.le_antisymm hi hge
    exact .inl ⟨w.stops H q, hd H p⟩
end
end My

/-! KitL9 -/
/-! a text times a number -/
namespace My
open PySem L2
def repS (x : Str) (n : Nat) : Str := ⟨(List.replicate n x.cps).foldl (· ++ ·) #[]⟩
theorem repS_one (x : Str) : repS x 1 = x := by
  unfold repS
  show (⟨#[] ++ x.cps⟩ : Str) = x
  rw [Array.empty_append]
theorem fold_emp (n : Nat) : (List.replicate n (#[] : Array Nat)).foldl (· ++ ·) #[] = #[] := by
  induction n with
  | zero => rfl
  | succ n ih => rw [List.replicate_succ, List.foldl_cons]; simpa using ih
section
variable {X : Cx}
theorem op_rep_str : OpR X (binaryOp .Mult) (fun x y H Q => ∃ z k, x = .str z ∧ y = .int k ∧ 0 ≤ k ∧ k ≤ 1000 ∧ z.length ≤ 1000 ∧ Q (.str (repS z k.toNat)) H) := by
  intro pins s σ H x y v u Q I rx ry h
  obtain ⟨z, k, rfl, rfl, h0, h1, hz, q⟩ := h
  obtain ⟨t, rfl⟩ := rx
  obtain ⟨t', rfl⟩ := ry
  have hm : z.length * k.toNat ≤ 1000 * 1000 := Nat.mul_le_mul hz (by omega)
  have sz : sizeLine = 16777216 := sizeLine_eq
  refine PySem.P.mul_str (by rw [decide_eq_false (by omega), decide_eq_false (by omega)]; rfl) (fun c _ => ?_) (fun _ _ => ?_) ?_
  · have e1 : ((z.length * k.toNat : Nat) : Int) = (z.length : Int) * k := by
      rw [Int.natCast_mul, Int.toNat_of_nonneg h0]
    have := Int.le_ediv_of_mul_le (a := (z.length : Int)) (b := 2 ^ 63 - 1) (c := k) (by omega) (by rw [← e1]; omega)
    omega
  · unfold Builtin.Str.tooLong
    exact decide_eq_false (by omega)
  · by_cases c1 : k < 1
    · rw [if_pos c1]
      have e : k.toNat = 0 := by omega
      rw [e] at q
      exact ⟨by rw [sz]; decide, .str _, H, I.tok _, ⟨_, rfl⟩, q⟩
    · rw [if_neg c1]
      by_cases c2 : (k == 1 || z.length == 0) = true
      · rw [if_pos c2]
        have e : repS z k.toNat = z := by
          rcases (Bool.or_eq_true _ _).mp c2 with c | c
          · have : k.toNat = 1 := by have := eq_of_beq c; omega
            rw [this, repS_one]
          · have : z.cps.size = 0 := eq_of_beq c
            have e0 : z = ⟨#[]⟩ := by cases z; congr 1; exact Array.eq_empty_of_size_eq_zero this
            subst e0
            unfold repS
            rw [fold_emp]
        rw [e] at q
        exact ⟨.str _, H, I, ⟨_, rfl⟩, q⟩
      · rw [if_neg c2]
        refine ⟨?_, .str _, H, I.tok _, ⟨_, rfl⟩, q⟩
        have : ∀ n : Nat, ((List.replicate n z.cps).foldl (· ++ ·) #[]).size = n * z.cps.size := fun n => by
          have g : ∀ (n : Nat) (a : Array Nat), ((List.replicate n z.cps).foldl (· ++ ·) a).size = a.size + n * z.cps.size := fun n => by
            induction n with
            | zero => intro a; simp
            | succ n ih => intro a; rw [List.replicate_succ, List.foldl_cons, ih, Array.size_append, Nat.succ_mul]; omega
          rw [g]; simp
        show ((List.replicate k.toNat z.cps).foldl (· ++ ·) #[]).size ≤ _
        rw [this, Nat.mul_comm]
        show z.length * k.toNat ≤ _
        omega
end
end My

/-! KitLA -/
/-! isinstance of a caught error that has attributes of its own -/
namespace My
section
open PySem PySem.Spec PySem.Calls PyProof.Rows PySem.W
variable {prog : Program} {w : World} {A : Around} {E : Value → Shared → Prop} {s : Shared} {K : Frag} {x D : Addr} {ox : Obj}
theorem found_class {C : Addr} {od : Option Obj} {name : Str} {a g : Value} (hc : hasDictIn K C = true) (ha : findIn K (.ref C) name = some (some a)) (hg : specialIn K a "__get__" = some (some g)) (ht : takesIn K a = some true) : findObj K C od name = some (.bind g a) := by
  obtain ⟨cd, e, _⟩ := any_some hc
  unfold findObj
  simp only [e, ha, hg, ht, Option.bind_some]
/-- e.__class__, whatever e has of its own -/
theorem class_of_exc {od : Option Obj} {Q : Option Value → Shared → Prop} (c : L2.ExcC K D) (X : K.In s.heap) (I : InstAt s.heap x ox D od) (h : Q (some (.ref D)) { s with toks := s.toks + 1 }) : wpAny (model prog w) A (getAttr? (.ref x) "__class__") Q E s := by
  have hf := found_class (od := od) c.hd c.ha c.hn c.ht
  obtain ⟨hp, g, d, t, os⟩ := s
  have L0 := I.type (M := model prog w)
  have L3 := looks_find (M := model prog w) X I hf
  have sub : Looks (model prog w) hp (isInstance (.ref x) (.type "BaseException")) true := L0.andThen (looks_subIn X c.hs)
  unfold getAttr? getAttrBy? getAttrBy
  refine wpAny_bind (wpAny_mkText (wpAny_bind (wpAny_attempt (wpAny_holding (wpAny_bind (L0.at (wpAny_bind ((looks_findIn (M := model prog w) X c.hg).at ?_))))))))
  show wpAny _ _ (if (onTheHeap (Value.ref D) && Value.builtin "BaseException.__getattribute__" == Value.builtin "object.__getattribute__") = true then _ else _) _ _ _
  rw [show (onTheHeap (Value.ref D) && Value.builtin "BaseException.__getattribute__" == Value.builtin "object.__getattribute__") = false by rw [show (Value.builtin "BaseException.__getattribute__" == Value.builtin "object.__getattribute__") = false by decide +kernel]; rfl, if_neg Bool.false_ne_true]
  unfold getAttrByItsOwn hookBefore
  refine wpAny_bind ?_
  rw [if_pos (show onTheHeap (Value.ref D) = true from rfl)]
  refine (looks_findIn (M := model prog w) X c.hk).at (wpAny_bind (wpAny_attempt (wpAny_holding ?_)))
  unfold callGetattribute
  rw [show (false && onTheHeap (Value.builtin "BaseException.__getattribute__")) = false from rfl, if_neg Bool.false_ne_true]
  unfold boundAndCalled
  rw [PySem.F.excAttr_ValueError.ga.bind (.ref x)]
  refine wpAny_bind (wpAny_pure ?_)
  show wpAny _ _ (call (.builtin "BaseException.__getattribute__") [.ref x, .str "__class__" t]) _ _ _
  refine wpAny_call (codeAny_call_builtin PySem.F.excAttr_ValueError.ga.plain PySem.F.entry_bexc_ga ?_)
  refine @check_slot (model prog w) _ _ ⟨hp, g, d, t + 1, os⟩ "BaseException.__getattribute__" "BaseException" "__getattribute__" (.ref x) [.str "__class__" t] [] _ (by decide +kernel) (by decide +kernel) sub (PySem.F.args_bexc_ga (.ref x) (.str "__class__" t)) ?_
  unfold Builtin.«object.__getattribute__»
  refine wpAny_bind (wpAny_of_eq (a := ((Value.ref x : Value), [Value.str "__class__" t])) (by first | rfl | (simp only [slotArgs]; rfl)) ?_)
  refine wpAny_bind (wpAny_pure (wpAny_bind (L0.at (wpAny_bind (L3.at ?_)))))
  show wpAny _ _ (holding [Value.builtin "object.__class__"] (call (.builtin "getset_descriptor.__get__") [.builtin "object.__class__", .ref x, .ref D]) >>= ret) _ _ _
  refine wpAny_bind (wpAny_holding (wpAny_call (class_get (s := ⟨hp, g, d, t + 1, os⟩) (ox := ox) (od := od) X I c.hm ?_)))
  refine wpAny_pure ?_
  show wpAny _ _ (handedOut (.ref D)) _ _ _
  rw [handedOut_of (v := .ref D) rfl]
  first
    | exact wpAny_pure (wpAny_pure h)
    | exact wpAny_pure h
    | exact wpAny_pure (wpAny_bind (wpAny_pure (wpAny_pure h)))
theorem kit_exc {od : Option Obj} (c : L2.ExcC K D) : KitX K (.ref x) (.ref D) (fun h => InstAt h x ox D od) where
  ty := fun _ _ _ I => I.type
  it := fun _ _ X _ => by
    obtain ⟨cd, e, _⟩ := any_some c.hd
    intro A' Q' E' s' k q
    unfold clsIn at e
    split at e
    · rename_i c' d' cd' sl' ho
      unfold isType loadHead
      exact wpAny_bind (wpAny_loadPart (k _ _ (X _ _ ho)) (wpAny_pure q))
    · cases e
  ne := (handS_kitx_exc (x := x) (ox := ox) c.hg c.hk c.hs c.hd c.ha c.hn c.ht c.hm).ne
  ca := fun X I k => class_of_exc c X I k
end
section
open PySem PySem.Spec PyProof.Rows L2
/-- isinstance(e, c), e the exception that the suite holds, with a dict of its own -/
def rIsX (K : PySem.W.Frag) (D a : Addr) (cls : Value) (d : Option Addr) : List V → Hp → VK → Prop := fun xs H Q => cls = .ref D ∧ (∃ dd fs, d = some dd ∧ H dd = some (.xd fs)) ∧ ∃ (c : V) (cv : Value) (b : Bool), xs = [.ref a, c] ∧ (∀ u, RelV c u → u = cv) ∧ PySem.W.kitOne K (.ref D) cv = some b ∧ Q (.bl b) H
theorem call_isX {X : Cx} {a D : Addr} {oe : Obj} {cls : Value} {d : Option Addr} {pn : List (Addr × Obj)} (C : ExcC X.K D) (hz : Zc cls d oe) (hf : ∃ vs, oe.data = .fields vs) : CallR (X.suite a ((a, oe) :: pn)) (.builtin "isinstance") (rIsX X.K D a cls d) := by
  intro pins s σ H xs us Q I r h
  obtain ⟨ec, ⟨dd, fs, ed, hdd⟩, c, cv, b, rfl, hcv, e, q⟩ := h
  subst ec
  subst ed
  cases r with
  | cons rx rr =>
    cases rr with
    | cons rt rr =>
      cases rr
      cases rx
      have ecv := hcv _ rt
      subst ecv
      obtain ⟨hget, _⟩ := I.pin (a, oe) (List.mem_append_left _ List.mem_cons_self)
      obtain ⟨vs, hv⟩ := hf
      have hx : ObjOk X.prog X.w H s.heap dd (.xd fs) := I.hok dd _ hdd
      obtain ⟨mA, hns, _⟩ := hx
      obtain ⟨od, ho, _⟩ := lookIn_ns hns
      have J : PySem.W.InstAt s.heap a oe D (some od) := ⟨hget, hz.1, by unfold PySem.W.notCls; rw [hv] <;> rfl, by rw [hz.2]; exact ho⟩
      exact PySem.W.kia_one (kit_exc C) I.kIn J e (fun z => nomatch z) fun tk => ⟨.bl b, H, I.kept (t' := tk) fun _ _ z => z, rfl, q⟩
/-- x is not True (or False), x a bool or None -/
theorem op_notB {X : Cx} : OpR X (compareOp .IsNot) (fun x y H Q => ∃ c, y = .bl c ∧ ((∃ b, x = .bl b ∧ Q (.bl (!(b == c))) H) ∨ (x = .non ∧ Q (.bl true) H))) := by
  intro pins s σ H x y v u Q I rx ry h
  obtain ⟨c, rfl, h⟩ := h
  cases ry
  show wpAny _ _ ((isSame v (Value.bool c)) >>= fun z => pure (Value.bool (!z))) _ _ s
  rcases h with ⟨b, rfl, q⟩ | ⟨rfl, q⟩
  · cases rx
    refine wpAny_bind (wpAny_isSame_plain rfl (wpAny_pure ?_))
    have e : (Value.bool b == Value.bool c) = (b == c) := by cases b <;> cases c <;> decide
    rw [e]
    exact fin_bl I q rfl
  · cases rx
    refine wpAny_bind (wpAny_isSame_plain rfl (wpAny_pure ?_))
    have e : (Value.none == Value.bool c) = false := by cases c <;> decide
    rw [e]
    exact fin_bl I q rfl
end
end My

/-! M11 -/
/-! forms of guest books: the mathematics -/
namespace My
open PySem L2
def sg (c : Nat) : Str := ⟨#[c]⟩
/-- the signs of a pattern -/
abbrev Str.l (z : Str) : List Nat := z.cps.toList
structure FM where
  nm : Str
  ps : List Str
def FM.pl (f : FM) : List (List Nat) := f.ps.map fun z => z.cps.toList
def is01 (c : Nat) : Bool := c == 48 || c == 49
def mskN : List Nat → Nat
  | [] => 0
  | c :: r => (if is01 c = true then 2 ^ r.length else 0) + mskN r
def bitN : List Nat → Nat
  | [] => 0
  | c :: r => (if c = 49 then 2 ^ r.length else 0) + bitN r
theorem mskN_lt : ∀ p : List Nat, mskN p < 2 ^ p.length
  | [] => by simp [mskN]
  | c :: r => by
    have := mskN_lt r
    rw [mskN, List.length_cons, Nat.pow_succ]
    split <;> omega
theorem bitN_lt : ∀ p : List Nat, bitN p < 2 ^ p.length
  | [] => by simp [bitN]
  | c :: r => by
    have := bitN_lt r
    rw [bitN, List.length_cons, Nat.pow_succ]
    split <;> omega
/-- each 0 and 1 of the pattern is that bit -/
def fitB : List Nat → Nat → Bool
  | [], _ => true
  | s :: r, c => (!(s == 48 && c.testBit r.length)) && (!(s == 49 && !c.testBit r.length)) && fitB r c
theorem fit_mask : ∀ (p : List Nat) (c : Nat), (c &&& mskN p = bitN p) ↔ fitB p c = true
  | [], c => by simp [mskN, bitN, fitB]
  | s :: r, c => by
    have ih := fit_mask r c
    have hm := mskN_lt r
    have hb := bitN_lt r
    have em : mskN (s :: r) = 2 ^ r.length * (if is01 s = true then 1 else 0) + mskN r := by rw [mskN]; split <;> simp
    have eb : bitN (s :: r) = 2 ^ r.length * (if s = 49 then 1 else 0) + bitN r := by rw [bitN]; split <;> simp
    rw [fitB, Bool.and_eq_true, Bool.and_eq_true, ← ih]
    constructor
    · intro h
      have ht : ∀ i, (c.testBit i && (mskN (s :: r)).testBit i) = (bitN (s :: r)).testBit i := fun i => by rw [← Nat.testBit_and, h]
      have low : ∀ i, i < r.length → (c.testBit i && (mskN r).testBit i) = (bitN r).testBit i := fun i hi => by
        have := ht i
        rw [em, eb, Nat.testBit_two_pow_mul_add _ hm, Nat.testBit_two_pow_mul_add _ hb, if_pos hi, if_pos hi] at this
        exact this
      have top := ht r.length
      rw [em, eb, Nat.testBit_two_pow_mul_add _ hm, Nat.testBit_two_pow_mul_add _ hb, if_neg (Nat.lt_irrefl _), if_neg (Nat.lt_irrefl _), Nat.sub_self] at top
      refine ⟨?_, Nat.eq_of_testBit_eq fun i => ?_⟩
      · by_cases h0 : s = 48
        · subst h0; simp [is01] at top ⊢; simp [top]
        by_cases h1 : s = 49
        · subst h1; simp [is01] at top ⊢; simp [top]
        simp [h0, h1]
      · rw [Nat.testBit_and]
        by_cases hi : i < r.length
        · exact low i hi
        · have e1 := Nat.testBit_lt_two_pow (Nat.lt_of_lt_of_le hm (Nat.pow_le_pow_right (by decide) (Nat.le_of_not_lt hi)))
          have e2 := Nat.testBit_lt_two_pow (Nat.lt_of_lt_of_le hb (Nat.pow_le_pow_right (by decide) (Nat.le_of_not_lt hi)))
          rw [e1, e2, Bool.and_false]
    · rintro ⟨⟨h1, h2⟩, h⟩
      refine Nat.eq_of_testBit_eq fun i => ?_
      rw [Nat.testBit_and, em, eb, Nat.testBit_two_pow_mul_add _ hm, Nat.testBit_two_pow_mul_add _ hb]
      by_cases hi : i < r.length
      · rw [if_pos hi, if_pos hi, ← Nat.testBit_and, h]
      · rw [if_neg hi, if_neg hi]
        by_cases he : i = r.length
        · subst he
          rw [Nat.sub_self]
          by_cases h0 : s = 48
          · subst h0; simp [is01] at h1 ⊢; exact h1
          by_cases h1' : s = 49
          · subst h1'; simp [is01] at h2 ⊢; exact h2
          simp [is01, h0, h1']
        · have z : ∀ b : Bool, (if b = true then (1 : Nat) else 0).testBit (i - r.length) = false := fun b => Nat.testBit_lt_two_pow (by
            have : 1 ≤ i - r.length := by omega
            have := Nat.pow_le_pow_right (n := 2) (by decide) this
            cases b <;> simp <;> omega)
          rw [z (is01 s)]
          have z2 := z (decide (s = 49))
          simp only [decide_eq_true_eq] at z2
          rw [z2, Bool.and_false]
def mayB (ps : List (List Nat)) (cs : List Nat) : Bool := (ps.zip cs).all fun q => fitB q.1 q.2
/-- signs with bits, the highest first -/
def bitsOf : List Nat → Nat → List (Nat × Nat)
  | [], _ => []
  | s :: r, c => (s, c / 2 ^ r.length % 2) :: bitsOf r c
def allBits (ps : List (List Nat)) (cs : List Nat) : List (Nat × Nat) := ((ps.zip cs).map fun q => bitsOf q.1 q.2).flatten
def numStep (l : Nat) (a : Nat) (q : Nat × Nat) : Nat := if q.1 = l then a * 2 + q.2 else a
def numL (l : Nat) (bs : List (Nat × Nat)) : Nat := bs.foldl (numStep l) 0
def lettersN : List Nat := [97, 98, 99, 109, 110]
def lettersM (ps : List (List Nat)) : List (Nat × Nat) := (lettersN.filter fun c => decide (c ∈ ps.flatten)).map fun c => (c, ps.flatten.count c)
def numsM (ps : List (List Nat)) (cs : List Nat) : List Nat := (lettersM ps).map fun q => numL q.1 (allBits ps cs)
def formAt (F : List FM) (l : List Nat) : Option FM := F.find? fun f => f.ps.length == l.length && mayB f.pl l
def goesM (F : List FM) (l : List Nat) : Bool := F.any fun f => decide (l.length < f.ps.length) && mayB f.pl l
/-- decoding from n cells on, at most k further -/
def decM (F : List FM) (ds : List Nat) : Nat → Nat → Option FM × Nat
  | n, 0 => (none, n)
  | n, k + 1 => match formAt F (ds.take (n + 1)) with
    | some f => (some f, n + 1)
    | none => if goesM F (ds.take (n + 1)) then decM F ds (n + 1) k else (none, n + 1)
end My

/-! HL -/
/-! helpers -/
namespace My
open PySem L2
theorem same_new {H : Hp} {p : Addr} {o : HO} (hp : H p = none) : Same H (upd H p o) := fun b u e => by rw [upd_ne (ne_of_none e hp)]; exact e
/-- a way by a Bool -/
theorem iteB {c : Bool} {A B : Prop} (h1 : c = true → A) (h2 : c = false → B) : if c = true then A else B := by
  cases c
  · rw [if_neg (fun z => by cases z)]; exact h2 rfl
  · rw [if_pos rfl]; exact h1 rfl
theorem iteBB {Q : V → Hp → Prop} {H : Hp} {c : Bool} (k : Q (.bl c) H) : if c = true then Q (.bl true) H else Q (.bl false) H := by
  cases c
  · rw [if_neg (fun z => by cases z)]; exact k
  · rw [if_pos rfl]; exact k
end My
namespace My
open PySem L2
theorem app_l (x y : Str) : (x ++ y).cps.toList = x.cps.toList ++ y.cps.toList := by
  show (x.cps ++ y.cps).toList = _
  simp
theorem sjoin_l : ∀ ys : List Str, (Str.join ("" : Str) ys).cps.toList = (ys.map fun z => z.cps.toList).flatten
  | [] => rfl
  | [x] => by simp [Str.join]
  | x :: y :: r => by
    have ih := sjoin_l (y :: r)
    show (x ++ ("" : Str) ++ Str.join "" (y :: r)).cps.toList = _
    rw [app_l, app_l, ih]
    have e : ("" : Str).cps.toList = [] := by decide
    rw [e]
    simp
theorem join_l (ys : List Str) : (Txt.join ("" : Str) ys).cps.toList = (ys.map fun z => z.cps.toList).flatten := by
  have : Txt.join ("" : Str) ys = Str.join "" ys := StrLaws.glued_eq_join _ _
  rw [this, sjoin_l]
theorem cnt_count (c : Nat) : ∀ l : List Nat, PyProof.Rows.cnt c l = ((l.count c : Nat) : Int)
  | [] => rfl
  | x :: r => by
    rw [PyProof.Rows.cnt_cons, cnt_count c r, List.count_cons]
    by_cases h : x = c
    · subst h; simp; omega
    · simp [h]
theorem count_l (z : Str) (c : Nat) : Txt.count z ⟨#[c]⟩ = ((z.cps.toList.count c : Nat) : Int) := by
  rw [PyProof.Rows.count_cnt, cnt_count]
/-- objects one by one -/
def Refs {α : Type} (H : Hp) (ts : List V) (xs : List α) (R : Hp → Addr → α → Prop) : Prop := ts.length = xs.length ∧ ∀ (i : Nat) (x : α), xs[i]? = some x → ∃ u, ts[i]? = some (V.ref u) ∧ R H u x
theorem Refs.nil {α : Type} {H : Hp} {R : Hp → Addr → α → Prop} : Refs H [] ([] : List α) R := ⟨rfl, fun _ _ h => by simp at h⟩
theorem Refs.map {α : Type} {H H' : Hp} {ts : List V} {xs : List α} {R R' : Hp → Addr → α → Prop} (h : Refs H ts xs R) (m : ∀ u x, x ∈ xs → R H u x → R' H' u x) : Refs H' ts xs R' :=
  ⟨h.1, fun i x e => let ⟨u, e1, r⟩ := h.2 i x e; ⟨u, e1, m u x (List.mem_of_getElem? e) r⟩⟩
theorem Refs.snoc {α : Type} {H : Hp} {ts : List V} {xs : List α} {R : Hp → Addr → α → Prop} {u : Addr} {x : α} (h : Refs H ts xs R) (r : R H u x) : Refs H (ts ++ [V.ref u]) (xs ++ [x]) R := by
  refine ⟨by simp [h.1], fun i y e => ?_⟩
  by_cases hi : i < xs.length
  · rw [List.getElem?_append_left hi] at e
    rw [List.getElem?_append_left (by rw [h.1]; exact hi)]
    exact h.2 i y e
  · have hi2 : i = xs.length := by
      have := (List.getElem?_eq_some_iff.mp e).1
      simp at this; omega
    subst hi2
    have : x = y := by simpa using e
    subst this
    exact ⟨u, by rw [← h.1]; simp, r⟩
theorem Refs.at {α : Type} {H : Hp} {ts : List V} {xs : List α} {R : Hp → Addr → α → Prop} (h : Refs H ts xs R) {i : Nat} (hi : i < xs.length) : ∃ u x, xs[i]? = some x ∧ ts[i]? = some (V.ref u) ∧ R H u x := by
  obtain ⟨u, e, r⟩ := h.2 i xs[i] (List.getElem?_eq_getElem hi)
  exact ⟨u, _, List.getElem?_eq_getElem hi, e, r⟩
def LetAt (H : Hp) (u : Addr) (q : Nat × Nat) : Prop := H u = some (.tup [.str (sg q.1), .int (q.2 : Nat)])
def LettersAt (H : Hp) (t : Addr) (L : List (Nat × Nat)) : Prop := ∃ ts, H t = some (.tup ts) ∧ Refs H ts L LetAt
theorem LettersAt.news {H H' : Hp} {t : Addr} {L : List (Nat × Nat)} (h : LettersAt H t L) (s : Same H H') : LettersAt H' t L := by
  obtain ⟨ts, h1, h2⟩ := h
  exact ⟨ts, s _ _ h1, h2.map fun u x _ r => s _ _ r⟩
/-- lengths of texts -/
def lens (ps : List Str) : Nat := (ps.map (·.length)).sum
end My
namespace My
open PySem L2
def selS (P : Nat → Bool) (r : List Nat) : Nat → Nat
  | 0 => 0
  | i + 1 => selS P r i + if P (r.getD i 0) = true then 2 ^ i else 0
theorem selS_app (P : Nat → Bool) (a b : List Nat) : ∀ i, i ≤ a.length → selS P (a ++ b) i = selS P a i
  | 0, _ => rfl
  | i + 1, h => by
    rw [selS, selS, selS_app P a b i (by omega)]
    have : (a ++ b).getD i 0 = a.getD i 0 := by
      rw [List.getD_eq_getElem?_getD, List.getD_eq_getElem?_getD, List.getElem?_append_left (by omega)]
    rw [this]
theorem selS_msk : ∀ p : List Nat, selS is01 p.reverse p.length = mskN p
  | [] => rfl
  | c :: r => by
    have ih := selS_msk r
    rw [List.reverse_cons, List.length_cons, selS, selS_app _ _ _ _ (by simp), ih]
    have : (r.reverse ++ [c]).getD r.length 0 = c := by
      rw [List.getD_eq_getElem?_getD, List.getElem?_append_right (by simp)]; simp
    rw [this, mskN]
    omega
theorem selS_bit : ∀ p : List Nat, selS (fun c => c == 49) p.reverse p.length = bitN p
  | [] => rfl
  | c :: r => by
    have ih := selS_bit r
    rw [List.reverse_cons, List.length_cons, selS, selS_app _ _ _ _ (by simp), ih]
    have : (r.reverse ++ [c]).getD r.length 0 = c := by
      rw [List.getD_eq_getElem?_getD, List.getElem?_append_right (by simp)]; simp
    rw [this, bitN]
    by_cases h : c = 49
    · simp [h]; omega
    · simp [h]
theorem in01 (c : Nat) : decide (c ∈ ("01" : Str).cps.toList) = is01 c := by
  have e : ("01" : Str).cps.toList = [48, 49] := by decide
  rw [e]
  unfold is01
  by_cases h : c = 48
  · simp [h]
  · by_cases h1 : c = 49
    · simp [h1]
    · simp [h, h1]
theorem str1_inj {c d : Nat} : (V.str ⟨#[c]⟩ = V.str ⟨#[d]⟩) ↔ c = d := by
  constructor
  · intro h
    injection h with h
    injection h with h
    have := congrArg (fun a : Array Nat => a.toList) h
    simpa using this
  · intro h; rw [h]
theorem eqSg {c d : Nat} {z : Str} (hz : z = ⟨#[d]⟩) : decide (V.str ⟨#[c]⟩ = V.str z) = (c == d) := by
  subst hz
  by_cases h : c = d
  · subst h; simp
  · have : ¬ (V.str ⟨#[c]⟩ = V.str ⟨#[d]⟩) := fun z => h (str1_inj.mp z)
    simp [this, h]
end My
namespace My
open PySem L2
theorem smallL (c : Nat) (h : 97 ≤ c ∧ c ≤ 122) : decide (c ∈ ("abcdefghijklmnopqrstuvwxyz" : Str).cps.toList) = true := by
  have e : ("abcdefghijklmnopqrstuvwxyz" : Str).cps.toList = (List.range 26).map (97 + ·) := by decide
  rw [e, decide_eq_true_eq, List.mem_map]
  exact ⟨c - 97, by rw [List.mem_range]; omega, by omega⟩
def okS (c : Nat) : Bool := decide (c ∈ [48, 49, 97, 98, 99, 109, 110])
theorem inOk (c : Nat) : decide (c ∈ ("01abcmn" : Str).cps.toList) = okS c := by
  have e : ("01abcmn" : Str).cps.toList = [48, 49, 97, 98, 99, 109, 110] := by decide
  rw [e]; rfl
def isReg (c : Nat) : Bool := decide (c ∈ [97, 98, 99])
theorem inReg (c : Nat) : decide (c ∈ ("abc" : Str).cps.toList) = isReg c := by
  have e : ("abc" : Str).cps.toList = [97, 98, 99] := by decide
  rw [e]; rfl
def pls (ps : List Str) : List (List Nat) := ps.map fun z => z.cps.toList
structure PatsOk (w r : Nat) (ps : List Str) : Prop where
  l1 : 1 ≤ ps.length
  l3 : ps.length ≤ 3
  pat : ∀ z ∈ ps, z.length = w ∧ ∀ c ∈ z.cps.toList, okS c = true
  bits : ∀ q ∈ lettersM (pls ps), q.2 ≤ w ∧ (isReg q.1 = true → 2 ^ q.2 ≤ r)
def nameOk (z : Str) : Prop := 1 ≤ z.length ∧ z.length ≤ 8 ∧ ∀ c ∈ z.cps.toList, 97 ≤ c ∧ c ≤ 122
theorem all_rep {n : Nat} : (List.replicate n true).all id = true := by simp
theorem rep_snoc {n : Nat} : (List.replicate (n + 1) true).map V.bl = (List.replicate n true).map V.bl ++ [V.bl true] := by simp [List.replicate_succ']
theorem lens_le {w : Nat} : ∀ {ps : List Str}, (∀ z ∈ ps, z.length = w) → lens ps = ps.length * w
  | [], _ => by simp [lens]
  | z :: r, h => by
    have ih := lens_le (ps := r) fun y hy => h y (by simp [hy])
    have hz := h z (by simp)
    unfold lens at ih ⊢
    rw [List.map_cons, List.sum_cons, ih, hz, List.length_cons, Nat.succ_mul]; omega
end My
namespace My
open PySem L2
def formF (nm : Str) (pt ln : Addr) (k : Nat) (lt fx : Addr) : List (Str × V) := [("name", .str nm), ("patterns", .ref pt), ("lines", .ref ln), ("size", .int (k : Nat)), ("letters", .ref lt), ("effect", .non), ("goto", .non), ("fixed", .ref fx)]
theorem look_form_name (nm : Str) (pt ln : Addr) (k : Nat) (lt fx : Addr) : (formF nm pt ln k lt fx).lookup ("name" : Str) = some (.str nm) := by unfold formF; rw [lk, if_pos rfl]
theorem look_form_patterns (nm : Str) (pt ln : Addr) (k : Nat) (lt fx : Addr) : (formF nm pt ln k lt fx).lookup ("patterns" : Str) = some (.ref pt) := by unfold formF; rw [lk, if_neg (by decide +kernel), lk, if_pos rfl]
theorem look_form_lines (nm : Str) (pt ln : Addr) (k : Nat) (lt fx : Addr) : (formF nm pt ln k lt fx).lookup ("lines" : Str) = some (.ref ln) := by unfold formF; rw [lk, if_neg (by decide +kernel), lk, if_neg (by decide +kernel), lk, if_pos rfl]
theorem look_form_size (nm : Str) (pt ln : Addr) (k : Nat) (lt fx : Addr) : (formF nm pt ln k lt fx).lookup ("size" : Str) = some (.int (k : Nat)) := by unfold formF; rw [lk, if_neg (by decide +kernel), lk, if_neg (by decide +kernel), lk, if_neg (by decide +kernel), lk, if_pos rfl]
theorem look_form_letters (nm : Str) (pt ln : Addr) (k : Nat) (lt fx : Addr) : (formF nm pt ln k lt fx).lookup ("letters" : Str) = some (.ref lt) := by unfold formF; rw [lk, if_neg (by decide +kernel), lk, if_neg (by decide +kernel), lk, if_neg (by decide +kernel), lk, if_neg (by decide +kernel), lk, if_pos rfl]
theorem look_form_effect (nm : Str) (pt ln : Addr) (k : Nat) (lt fx : Addr) : (formF nm pt ln k lt fx).lookup ("effect" : Str) = some (.non) := by unfold formF; rw [lk, if_neg (by decide +kernel), lk, if_neg (by decide +kernel), lk, if_neg (by decide +kernel), lk, if_neg (by decide +kernel), lk, if_neg (by decide +kernel), lk, if_pos rfl]
theorem look_form_goto (nm : Str) (pt ln : Addr) (k : Nat) (lt fx : Addr) : (formF nm pt ln k lt fx).lookup ("goto" : Str) = some (.non) := by unfold formF; rw [lk, if_neg (by decide +kernel), lk, if_neg (by decide +kernel), lk, if_neg (by decide +kernel), lk, if_neg (by decide +kernel), lk, if_neg (by decide +kernel), lk, if_neg (by decide +kernel), lk, if_pos rfl]
theorem look_form_fixed (nm : Str) (pt ln : Addr) (k : Nat) (lt fx : Addr) : (formF nm pt ln k lt fx).lookup ("fixed" : Str) = some (.ref fx) := by unfold formF; rw [lk, if_neg (by decide +kernel), lk, if_neg (by decide +kernel), lk, if_neg (by decide +kernel), lk, if_neg (by decide +kernel), lk, if_neg (by decide +kernel), lk, if_neg (by decide +kernel), lk, if_neg (by decide +kernel), lk, if_pos rfl]
theorem put_form_0 {x0 : V} : putF "name" x0 ([] : List (Str × V)) = [(("name" : Str), x0)] := by rw [putF]
theorem put_form_1 {x0 : V} {x1 : V} : putF "patterns" x1 ([(("name" : Str), x0)] : List (Str × V)) = [(("name" : Str), x0), (("patterns" : Str), x1)] := by rw [putF, if_neg (by decide +kernel), putF]
theorem put_form_2 {x0 : V} {x1 : V} {x2 : V} : putF "lines" x2 ([(("name" : Str), x0), (("patterns" : Str), x1)] : List (Str × V)) = [(("name" : Str), x0), (("patterns" : Str), x1), (("lines" : Str), x2)] := by rw [putF, if_neg (by decide +kernel), putF, if_neg (by decide +kernel), putF]
theorem put_form_3 {x0 : V} {x1 : V} {x2 : V} {x3 : V} : putF "size" x3 ([(("name" : Str), x0), (("patterns" : Str), x1), (("lines" : Str), x2)] : List (Str × V)) = [(("name" : Str), x0), (("patterns" : Str), x1), (("lines" : Str), x2), (("size" : Str), x3)] := by rw [putF, if_neg (by decide +kernel), putF, if_neg (by decide +kernel), putF, if_neg (by decide +kernel), putF]
theorem put_form_4 {x0 : V} {x1 : V} {x2 : V} {x3 : V} {x4 : V} : putF "letters" x4 ([(("name" : Str), x0), (("patterns" : Str), x1), (("lines" : Str), x2), (("size" : Str), x3)] : List (Str × V)) = [(("name" : Str), x0), (("patterns" : Str), x1), (("lines" : Str), x2), (("size" : Str), x3), (("letters" : Str), x4)] := by rw [putF, if_neg (by decide +kernel), putF, if_neg (by decide +kernel), putF, if_neg (by decide +kernel), putF, if_neg (by decide +kernel), putF]
theorem put_form_5 {x0 : V} {x1 : V} {x2 : V} {x3 : V} {x4 : V} {x5 : V} : putF "effect" x5 ([(("name" : Str), x0), (("patterns" : Str), x1), (("lines" : Str), x2), (("size" : Str), x3), (("letters" : Str), x4)] : List (Str × V)) = [(("name" : Str), x0), (("patterns" : Str), x1), (("lines" : Str), x2), (("size" : Str), x3), (("letters" : Str), x4), (("effect" : Str), x5)] := by rw [putF, if_neg (by decide +kernel), putF, if_neg (by decide +kernel), putF, if_neg (by decide +kernel), putF, if_neg (by decide +kernel), putF, if_neg (by decide +kernel), putF]
theorem put_form_6 {x0 : V} {x1 : V} {x2 : V} {x3 : V} {x4 : V} {x5 : V} {x6 : V} : putF "goto" x6 ([(("name" : Str), x0), (("patterns" : Str), x1), (("lines" : Str), x2), (("size" : Str), x3), (("letters" : Str), x4), (("effect" : Str), x5)] : List (Str × V)) = [(("name" : Str), x0), (("patterns" : Str), x1), (("lines" : Str), x2), (("size" : Str), x3), (("letters" : Str), x4), (("effect" : Str), x5), (("goto" : Str), x6)] := by rw [putF, if_neg (by decide +kernel), putF, if_neg (by decide +kernel), putF, if_neg (by decide +kernel), putF, if_neg (by decide +kernel), putF, if_neg (by decide +kernel), putF, if_neg (by decide +kernel), putF]
theorem put_form_7 {x0 : V} {x1 : V} {x2 : V} {x3 : V} {x4 : V} {x5 : V} {x6 : V} {x7 : V} : putF "fixed" x7 ([(("name" : Str), x0), (("patterns" : Str), x1), (("lines" : Str), x2), (("size" : Str), x3), (("letters" : Str), x4), (("effect" : Str), x5), (("goto" : Str), x6)] : List (Str × V)) = [(("name" : Str), x0), (("patterns" : Str), x1), (("lines" : Str), x2), (("size" : Str), x3), (("letters" : Str), x4), (("effect" : Str), x5), (("goto" : Str), x6), (("fixed" : Str), x7)] := by rw [putF, if_neg (by decide +kernel), putF, if_neg (by decide +kernel), putF, if_neg (by decide +kernel), putF, if_neg (by decide +kernel), putF, if_neg (by decide +kernel), putF, if_neg (by decide +kernel), putF, if_neg (by decide +kernel), putF]
def bookF (w r : Nat) (ft nd : Addr) (tx : Str) : List (Str × V) := [("word", .int (w : Nat)), ("registers", .int (r : Nat)), ("forms", .ref ft), ("_named", .ref nd), ("_text", .str tx)]
theorem look_book_word (w r : Nat) (ft nd : Addr) (tx : Str) : (bookF w r ft nd tx).lookup ("word" : Str) = some (.int (w : Nat)) := by unfold bookF; rw [lk, if_pos rfl]
theorem look_book_registers (w r : Nat) (ft nd : Addr) (tx : Str) : (bookF w r ft nd tx).lookup ("registers" : Str) = some (.int (r : Nat)) := by unfold bookF; rw [lk, if_neg (by decide +kernel), lk, if_pos rfl]
theorem look_book_forms (w r : Nat) (ft nd : Addr) (tx : Str) : (bookF w r ft nd tx).lookup ("forms" : Str) = some (.ref ft) := by unfold bookF; rw [lk, if_neg (by decide +kernel), lk, if_neg (by decide +kernel), lk, if_pos rfl]
theorem look_book_named (w r : Nat) (ft nd : Addr) (tx : Str) : (bookF w r ft nd tx).lookup ("_named" : Str) = some (.ref nd) := by unfold bookF; rw [lk, if_neg (by decide +kernel), lk, if_neg (by decide +kernel), lk, if_neg (by decide +kernel), lk, if_pos rfl]
theorem look_book_text (w r : Nat) (ft nd : Addr) (tx : Str) : (bookF w r ft nd tx).lookup ("_text" : Str) = some (.str tx) := by unfold bookF; rw [lk, if_neg (by decide +kernel), lk, if_neg (by decide +kernel), lk, if_neg (by decide +kernel), lk, if_neg (by decide +kernel), lk, if_pos rfl]
theorem put_book_0 {x0 : V} : putF "word" x0 ([] : List (Str × V)) = [(("word" : Str), x0)] := by rw [putF]
theorem put_book_1 {x0 : V} {x1 : V} : putF "registers" x1 ([(("word" : Str), x0)] : List (Str × V)) = [(("word" : Str), x0), (("registers" : Str), x1)] := by rw [putF, if_neg (by decide +kernel), putF]
theorem put_book_2 {x0 : V} {x1 : V} {x2 : V} : putF "forms" x2 ([(("word" : Str), x0), (("registers" : Str), x1)] : List (Str × V)) = [(("word" : Str), x0), (("registers" : Str), x1), (("forms" : Str), x2)] := by rw [putF, if_neg (by decide +kernel), putF, if_neg (by decide +kernel), putF]
theorem put_book_3 {x0 : V} {x1 : V} {x2 : V} {x3 : V} : putF "_named" x3 ([(("word" : Str), x0), (("registers" : Str), x1), (("forms" : Str), x2)] : List (Str × V)) = [(("word" : Str), x0), (("registers" : Str), x1), (("forms" : Str), x2), (("_named" : Str), x3)] := by rw [putF, if_neg (by decide +kernel), putF, if_neg (by decide +kernel), putF, if_neg (by decide +kernel), putF]
theorem put_book_4 {x0 : V} {x1 : V} {x2 : V} {x3 : V} {x4 : V} : putF "_text" x4 ([(("word" : Str), x0), (("registers" : Str), x1), (("forms" : Str), x2), (("_named" : Str), x3)] : List (Str × V)) = [(("word" : Str), x0), (("registers" : Str), x1), (("forms" : Str), x2), (("_named" : Str), x3), (("_text" : Str), x4)] := by rw [putF, if_neg (by decide +kernel), putF, if_neg (by decide +kernel), putF, if_neg (by decide +kernel), putF, if_neg (by decide +kernel), putF]
def FixA (H : Hp) (u : Addr) (z : Str) : Prop := H u = some (.tup [.int (mskN z.cps.toList : Nat), .int (bitN z.cps.toList : Nat)])
def FixAt (H : Hp) (fx : Addr) (ps : List Str) : Prop := ∃ ts, H fx = some (.tup ts) ∧ Refs H ts ps FixA
structure FormP (C : Addr) (H : Hp) (a : Addr) (f : FM) (dx pt ln lt fx : Addr) : Prop where
  o : H a = some (.ins C dx (formF f.nm pt ln f.ps.length lt fx))
  pt : H pt = some (.tup (f.ps.map V.str))
  ln : H ln = some (.tup [])
  lt : LettersAt H lt (lettersM (pls f.ps))
  fx : FixAt H fx f.ps
def FormAt (C : Addr) (H : Hp) (a : Addr) (f : FM) : Prop := ∃ dx pt ln lt fx, FormP C H a f dx pt ln lt fx
theorem FixAt.news {H H' : Hp} {t : Addr} {ps : List Str} (h : FixAt H t ps) (s : Same H H') : FixAt H' t ps := by
  obtain ⟨ts, h1, h2⟩ := h
  exact ⟨ts, s _ _ h1, h2.map fun u q _ r => s _ _ r⟩
theorem FormAt.news {C : Addr} {H H' : Hp} {a : Addr} {f : FM} (h : FormAt C H a f) (s : Same H H') : FormAt C H' a f := by
  obtain ⟨dx, pt, ln, lt, fx, h⟩ := h
  exact ⟨dx, pt, ln, lt, fx, s _ _ h.o, s _ _ h.pt, s _ _ h.ln, h.lt.news s, h.fx.news s⟩
theorem small_str : ∀ i : Nat, i ≤ 8 → (Str.ofString (toString (i : Int))).length ≤ 4 ∧ (i : Int).natAbs.log2 < 1920 := by decide
end My

/-! A -/
namespace My
open PySem L2
/-! ### the text by places -/
def top (i : Nat) : Stmt := PySem.Challenge.pw_selfwritten_k13_rows_that_begin_with_cod.main.body.getD i (.Pass ⟨0, 0, 0, 0⟩)
abbrev s_is_int : Stmt := top 12
abbrev s_is_row : Stmt := top 13
abbrev s_check_int : Stmt := top 14
abbrev s_letters_of : Stmt := top 8
abbrev s_fixed_bits : Stmt := top 9
abbrev s_letters_for : Stmt := top 31
abbrev s_written_line : Stmt := top 24
abbrev s_is_name : Stmt := top 42
abbrev s_first_of : Stmt := top 41
abbrev s_is_pattern : Stmt := top 45
abbrev s_are_patterns : Stmt := top 44
abbrev s_first_wrong : Stmt := top 46
abbrev s_Form_init : Stmt := inClass (top 39) 0
abbrev s_Grammar_init : Stmt := inClass (top 33) 0
abbrev s_checked_forms : Stmt := top 43
abbrev s_written : Stmt := top 47
abbrev s_Book_init : Stmt := inClass (top 40) 0
abbrev s_fixed : Stmt := top 10
abbrev s_begins : Stmt := top 17
abbrev s_is_full : Stmt := top 18
abbrev s_law_draws : Stmt := top 51
abbrev s_law_take : Stmt := top 52
abbrev s_law_is_int : Stmt := top 53
abbrev s_law_letters : Stmt := top 54
abbrev s_law_fits : Stmt := top 55
abbrev s_law_numbers : Stmt := top 56
abbrev s_law_decode : Stmt := top 57
abbrev s_law_patterns : Stmt := top 58
abbrev s_law_bent : Stmt := top 59
abbrev s_law_form_rows : Stmt := top 60
abbrev s_law_clash : Stmt := top 61
abbrev s_law_apart : Stmt := top 62
abbrev s_law_free : Stmt := top 63
abbrev s_law_counted : Stmt := top 64
abbrev s_law_split : Stmt := top 65
abbrev s_law_full_rows : Stmt := top 66
abbrev s_law_is_count : Stmt := top 67
abbrev s_law : Stmt := top 68
theorem sc_is_int : FnScope ["value"] ["value"] (defScope s_is_int) := ⟨rfl, rfl, rfl, by decide +kernel, rfl, by decide +kernel, by decide +kernel⟩
theorem sc_is_row : FnScope ["value"] ["value"] (defScope s_is_row) := ⟨rfl, rfl, rfl, by decide +kernel, rfl, by decide +kernel, by decide +kernel⟩
theorem sc_check_int : FnScope ["value", "low", "high", "name"] ["value", "low", "high", "name"] (defScope s_check_int) := ⟨rfl, rfl, rfl, by decide +kernel, rfl, by decide +kernel, by decide +kernel⟩
theorem sc_letters_of : FnScope ["patterns", "signs", "letter"] ["patterns"] (defScope s_letters_of) := ⟨rfl, rfl, rfl, by decide +kernel, rfl, by decide +kernel, by decide +kernel⟩
theorem sc_fixed_bits : FnScope ["pattern", "places", "mask", "at", "sign"] ["pattern"] (defScope s_fixed_bits) := ⟨rfl, rfl, rfl, by decide +kernel, rfl, by decide +kernel, by decide +kernel⟩
theorem sc_letters_for : FnScope ["sign"] ["sign"] (defScope s_letters_for) := ⟨rfl, rfl, rfl, by decide +kernel, rfl, by decide +kernel, by decide +kernel⟩
theorem sc_written_line : FnScope ["entries", "entry"] ["entries"] (defScope s_written_line) := ⟨rfl, rfl, rfl, by decide +kernel, rfl, by decide +kernel, by decide +kernel⟩
theorem sc_is_name : FnScope ["name", "sign"] ["name"] (defScope s_is_name) := ⟨rfl, rfl, rfl, by decide +kernel, rfl, by decide +kernel, by decide +kernel⟩
theorem sc_first_of : FnScope ["lines", "names", "number", "line"] ["lines", "names"] (defScope s_first_of) := ⟨rfl, rfl, rfl, by decide +kernel, rfl, by decide +kernel, by decide +kernel⟩
theorem sc_is_pattern : FnScope ["word", "pattern", "sign"] ["word", "pattern"] (defScope s_is_pattern) := ⟨rfl, rfl, rfl, by decide +kernel, rfl, by decide +kernel, by decide +kernel⟩
theorem sc_are_patterns : FnScope ["word", "registers", "patterns", "letter", "bits", "pattern"] ["word", "registers", "patterns"] (defScope s_are_patterns) := ⟨rfl, rfl, rfl, by decide +kernel, rfl, by decide +kernel, by decide +kernel⟩
theorem sc_first_wrong : FnScope ["grammar", "lines", "values", "effects", "gotos", "number", "line"] ["grammar", "lines"] (defScope s_first_wrong) := ⟨rfl, rfl, rfl, by decide +kernel, rfl, by decide +kernel, by decide +kernel⟩
theorem sc_Form_init : FnScope ["self", "name", "patterns", "lines", "pattern"] ["self", "name", "patterns", "lines"] (defScope s_Form_init) := ⟨rfl, rfl, rfl, by decide +kernel, rfl, by decide +kernel, by decide +kernel⟩
theorem sc_Grammar_init : FnScope ["self", "word", "registers", "letters", "own", "letter", "_", "sign", "one"] ["self", "word", "registers", "letters"] (defScope s_Grammar_init) := ⟨rfl, rfl, rfl, by decide +kernel, rfl, by decide +kernel, by decide +kernel⟩
theorem sc_checked_forms : FnScope ["word", "registers", "forms", "made", "entry", "name", "patterns", "lines", "wrong", "form", "line"] ["word", "registers", "forms"] (defScope s_checked_forms) := ⟨rfl, rfl, rfl, by decide +kernel, rfl, by decide +kernel, by decide +kernel⟩
theorem sc_written : FnScope ["book", "rows", "form", "row"] ["book"] (defScope s_written) := ⟨rfl, rfl, rfl, by decide +kernel, rfl, by decide +kernel, by decide +kernel⟩
theorem sc_Book_init : FnScope ["self", "word", "registers", "forms", "form"] ["self", "word", "registers", "forms"] (defScope s_Book_init) := ⟨rfl, rfl, rfl, by decide +kernel, rfl, by decide +kernel, by decide +kernel⟩
theorem sc_fixed : FnScope ["patterns", "signs"] ["patterns"] (defScope s_fixed) := ⟨rfl, rfl, rfl, by decide +kernel, rfl, by decide +kernel, by decide +kernel⟩
theorem sc_begins : FnScope ["book", "form"] ["book"] (defScope s_begins) := ⟨rfl, rfl, rfl, by decide +kernel, rfl, by decide +kernel, by decide +kernel⟩
theorem sc_is_full : FnScope ["book"] ["book"] (defScope s_is_full) := ⟨rfl, rfl, rfl, by decide +kernel, rfl, by decide +kernel, by decide +kernel⟩
theorem sc_law_draws : FnScope ["_law_script", "_law_numbers_here", "_law_at", "_law_cell", "_law_sign", "_law_turn", "_law_mixed"] ["_law_script"] (defScope s_law_draws) := ⟨rfl, rfl, rfl, by decide +kernel, rfl, by decide +kernel, by decide +kernel⟩
theorem sc_law_take : FnScope ["_law_draws_here", "_law_many", "_law_at"] ["_law_draws_here", "_law_many"] (defScope s_law_take) := ⟨rfl, rfl, rfl, by decide +kernel, rfl, by decide +kernel, by decide +kernel⟩
theorem sc_law_is_int : FnScope ["_law_thing"] ["_law_thing"] (defScope s_law_is_int) := ⟨rfl, rfl, rfl, by decide +kernel, rfl, by decide +kernel, by decide +kernel⟩
theorem sc_law_letters : FnScope ["_law_patterns_here", "_law_found", "_law_letter", "_law_bits", "_law_pattern", "_law_sign"] ["_law_patterns_here"] (defScope s_law_letters) := ⟨rfl, rfl, rfl, by decide +kernel, rfl, by decide +kernel, by decide +kernel⟩
theorem sc_law_fits : FnScope ["_law_pattern", "_law_word", "_law_high", "_law_at", "_law_bit"] ["_law_pattern", "_law_word"] (defScope s_law_fits) := ⟨rfl, rfl, rfl, by decide +kernel, rfl, by decide +kernel, by decide +kernel⟩
theorem sc_law_numbers : FnScope ["_law_patterns_here", "_law_cells", "_law_numbers_here", "_law_letter", "_law_bits", "_law_number", "_law_at", "_law_high", "_law_k"] ["_law_patterns_here", "_law_cells"] (defScope s_law_numbers) := ⟨rfl, rfl, rfl, by decide +kernel, rfl, by decide +kernel, by decide +kernel⟩
theorem sc_law_decode : FnScope ["_law_rows", "_law_cells", "_law_looked", "_law_going", "_law_row", "_law_fit", "_law_at"] ["_law_rows", "_law_cells"] (defScope s_law_decode) := ⟨rfl, rfl, rfl, by decide +kernel, rfl, by decide +kernel, by decide +kernel⟩
theorem sc_law_patterns : FnScope ["_law_draws_here", "_law_word", "_law_registers", "_law_many", "_law_each", "_law_left", "_law_patterns_here", "_law_at", "_law_signs", "_law_place", "_law_sign"] ["_law_draws_here", "_law_word", "_law_registers", "_law_many"] (defScope s_law_patterns) := ⟨rfl, rfl, rfl, by decide +kernel, rfl, by decide +kernel, by decide +kernel⟩
theorem sc_law_bent : FnScope ["_law_draws_here", "_law_patterns_here", "_law_bent_here", "_law_at", "_law_place", "_law_sign", "_law_kind", "_law_pattern"] ["_law_draws_here", "_law_patterns_here"] (defScope s_law_bent) := ⟨rfl, rfl, rfl, by decide +kernel, rfl, by decide +kernel, by decide +kernel⟩
theorem sc_law_form_rows : FnScope ["_law_draws_here", "_law_word", "_law_registers", "_law_many", "_law_names", "_law_rows", "_law_at", "_law_patterns_here"] ["_law_draws_here", "_law_word", "_law_registers", "_law_many"] (defScope s_law_form_rows) := ⟨rfl, rfl, rfl, by decide +kernel, rfl, by decide +kernel, by decide +kernel⟩
theorem sc_law_clash : FnScope ["_law_one", "_law_other", "_law_at", "_law_place", "_law_pair"] ["_law_one", "_law_other"] (defScope s_law_clash) := ⟨rfl, rfl, rfl, by decide +kernel, rfl, by decide +kernel, by decide +kernel⟩
theorem sc_law_apart : FnScope ["_law_rows", "_law_kept", "_law_row", "_law_alone", "_law_mate"] ["_law_rows"] (defScope s_law_apart) := ⟨rfl, rfl, rfl, by decide +kernel, rfl, by decide +kernel, by decide +kernel⟩
theorem sc_law_free : FnScope ["_law_patterns_here", "_law_many", "_law_pattern", "_law_sign"] ["_law_patterns_here"] (defScope s_law_free) := ⟨rfl, rfl, rfl, by decide +kernel, rfl, by decide +kernel, by decide +kernel⟩
theorem sc_law_counted : FnScope ["_law_rows", "_law_word", "_law_size", "_law_many", "_law_one", "_law_found", "_law_two", "_law_three"] ["_law_rows", "_law_word"] (defScope s_law_counted) := ⟨rfl, rfl, rfl, by decide +kernel, rfl, by decide +kernel, by decide +kernel⟩
theorem sc_law_split : FnScope ["_law_draws_here", "_law_forms", "_law_word", "_law_at", "_law_patterns_here", "_law_cell", "_law_place", "_law_halves", "_law_sign", "_law_half"] ["_law_draws_here", "_law_forms", "_law_word"] (defScope s_law_split) := ⟨rfl, rfl, rfl, by decide +kernel, rfl, by decide +kernel, by decide +kernel⟩
theorem sc_law_full_rows : FnScope ["_law_draws_here", "_law_word", "_law_forms", "_law_turn", "_law_names", "_law_rows", "_law_at"] ["_law_draws_here", "_law_word"] (defScope s_law_full_rows) := ⟨rfl, rfl, rfl, by decide +kernel, rfl, by decide +kernel, by decide +kernel⟩
theorem sc_law_is_count : FnScope ["_law_book", "_law_rows", "_law_word", "_law_due", "_law_at", "_law_free_here", "_law_size", "_law_told", "_law_full"] ["_law_book", "_law_rows", "_law_word"] (defScope s_law_is_count) := ⟨rfl, rfl, rfl, by decide +kernel, rfl, by decide +kernel, by decide +kernel⟩
theorem sc_law : FnScope ["_law_script", "_law_draws_here", "_law_rows", "_law_book", "_law_due", "_law_long", "_law_word", "_law_at", "_law_less", "_law_left", "_law_row"] ["_law_script"] (defScope s_law) := ⟨rfl, rfl, rfl, by decide +kernel, rfl, by decide +kernel, by decide +kernel⟩
structure Txt (K : PySem.W.Frag) (mg : Str → Option Value) where
  f_is_int : Addr
  fd_is_int : FuncData
  F_is_int : Fun K "is_int" "is_int" s_is_int f_is_int fd_is_int
  b_is_int : Binds K fd_is_int ["value"] []
  g_is_int : mg "is_int" = some (.ref f_is_int)
  f_is_row : Addr
  fd_is_row : FuncData
  F_is_row : Fun K "is_row" "is_row" s_is_row f_is_row fd_is_row
  b_is_row : Binds K fd_is_row ["value"] []
  g_is_row : mg "is_row" = some (.ref f_is_row)
  f_check_int : Addr
  fd_check_int : FuncData
  F_check_int : Fun K "check_int" "check_int" s_check_int f_check_int fd_check_int
  b_check_int : Binds K fd_check_int ["value", "low", "high", "name"] []
  g_check_int : mg "check_int" = some (.ref f_check_int)
  f_letters_of : Addr
  fd_letters_of : FuncData
  F_letters_of : Fun K "letters_of" "letters_of" s_letters_of f_letters_of fd_letters_of
  b_letters_of : Binds K fd_letters_of ["patterns"] []
  g_letters_of : mg "letters_of" = some (.ref f_letters_of)
  f_fixed_bits : Addr
  fd_fixed_bits : FuncData
  F_fixed_bits : Fun K "fixed_bits" "fixed_bits" s_fixed_bits f_fixed_bits fd_fixed_bits
  b_fixed_bits : Binds K fd_fixed_bits ["pattern"] []
  g_fixed_bits : mg "fixed_bits" = some (.ref f_fixed_bits)
  f_letters_for : Addr
  fd_letters_for : FuncData
  F_letters_for : Fun K "letters_for" "letters_for" s_letters_for f_letters_for fd_letters_for
  b_letters_for : Binds K fd_letters_for ["sign"] []
  g_letters_for : mg "letters_for" = some (.ref f_letters_for)
  f_written_line : Addr
  fd_written_line : FuncData
  F_written_line : Fun K "written_line" "written_line" s_written_line f_written_line fd_written_line
  b_written_line : Binds K fd_written_line ["entries"] []
  g_written_line : mg "written_line" = some (.ref f_written_line)
  f_is_name : Addr
  fd_is_name : FuncData
  F_is_name : Fun K "is_name" "is_name" s_is_name f_is_name fd_is_name
  b_is_name : Binds K fd_is_name ["name"] []
  g_is_name : mg "is_name" = some (.ref f_is_name)
  f_first_of : Addr
  fd_first_of : FuncData
  F_first_of : Fun K "_first_of" "_first_of" s_first_of f_first_of fd_first_of
  b_first_of : Binds K fd_first_of ["lines", "names"] []
  g_first_of : mg "_first_of" = some (.ref f_first_of)
  f_is_pattern : Addr
  fd_is_pattern : FuncData
  F_is_pattern : Fun K "_is_pattern" "_is_pattern" s_is_pattern f_is_pattern fd_is_pattern
  b_is_pattern : Binds K fd_is_pattern ["word", "pattern"] []
  g_is_pattern : mg "_is_pattern" = some (.ref f_is_pattern)
  f_are_patterns : Addr
  fd_are_patterns : FuncData
  F_are_patterns : Fun K "_are_patterns" "_are_patterns" s_are_patterns f_are_patterns fd_are_patterns
  b_are_patterns : Binds K fd_are_patterns ["word", "registers", "patterns"] []
  g_are_patterns : mg "_are_patterns" = some (.ref f_are_patterns)
  f_first_wrong : Addr
  fd_first_wrong : FuncData
  F_first_wrong : Fun K "_first_wrong" "_first_wrong" s_first_wrong f_first_wrong fd_first_wrong
  b_first_wrong : Binds K fd_first_wrong ["grammar", "lines"] []
  g_first_wrong : mg "_first_wrong" = some (.ref f_first_wrong)
  f_Form_init : Addr
  fd_Form_init : FuncData
  F_Form_init : Fun K "__init__" "Form.__init__" s_Form_init f_Form_init fd_Form_init
  b_Form_init : Binds K fd_Form_init ["self", "name", "patterns", "lines"] []
  f_Grammar_init : Addr
  fd_Grammar_init : FuncData
  F_Grammar_init : Fun K "__init__" "Grammar.__init__" s_Grammar_init f_Grammar_init fd_Grammar_init
  b_Grammar_init : Binds K fd_Grammar_init ["self", "word", "registers", "letters"] []
  f_checked_forms : Addr
  fd_checked_forms : FuncData
  F_checked_forms : Fun K "_checked_forms" "_checked_forms" s_checked_forms f_checked_forms fd_checked_forms
  b_checked_forms : Binds K fd_checked_forms ["word", "registers", "forms"] []
  g_checked_forms : mg "_checked_forms" = some (.ref f_checked_forms)
  f_written : Addr
  fd_written : FuncData
  F_written : Fun K "_written" "_written" s_written f_written fd_written
  b_written : Binds K fd_written ["book"] []
  g_written : mg "_written" = some (.ref f_written)
  f_Book_init : Addr
  fd_Book_init : FuncData
  F_Book_init : Fun K "__init__" "Book.__init__" s_Book_init f_Book_init fd_Book_init
  b_Book_init : Binds K fd_Book_init ["self", "word", "registers", "forms"] []
  f_fixed : Addr
  fd_fixed : FuncData
  F_fixed : Fun K "fixed" "fixed" s_fixed f_fixed fd_fixed
  b_fixed : Binds K fd_fixed ["patterns"] []
  g_fixed : mg "fixed" = some (.ref f_fixed)
  f_begins : Addr
  fd_begins : FuncData
  F_begins : Fun K "begins" "begins" s_begins f_begins fd_begins
  b_begins : Binds K fd_begins ["book"] []
  g_begins : mg "begins" = some (.ref f_begins)
  f_is_full : Addr
  fd_is_full : FuncData
  F_is_full : Fun K "is_full" "is_full" s_is_full f_is_full fd_is_full
  b_is_full : Binds K fd_is_full ["book"] []
  g_is_full : mg "is_full" = some (.ref f_is_full)
  f_law_draws : Addr
  fd_law_draws : FuncData
  F_law_draws : Fun K "_law_draws" "_law_draws" s_law_draws f_law_draws fd_law_draws
  b_law_draws : Binds K fd_law_draws ["_law_script"] []
  g_law_draws : mg "_law_draws" = some (.ref f_law_draws)
  f_law_take : Addr
  fd_law_take : FuncData
  F_law_take : Fun K "_law_take" "_law_take" s_law_take f_law_take fd_law_take
  b_law_take : Binds K fd_law_take ["_law_draws_here", "_law_many"] []
  g_law_take : mg "_law_take" = some (.ref f_law_take)
  f_law_is_int : Addr
  fd_law_is_int : FuncData
  F_law_is_int : Fun K "_law_is_int" "_law_is_int" s_law_is_int f_law_is_int fd_law_is_int
  b_law_is_int : Binds K fd_law_is_int ["_law_thing"] []
  g_law_is_int : mg "_law_is_int" = some (.ref f_law_is_int)
  f_law_letters : Addr
  fd_law_letters : FuncData
  F_law_letters : Fun K "_law_letters" "_law_letters" s_law_letters f_law_letters fd_law_letters
  b_law_letters : Binds K fd_law_letters ["_law_patterns_here"] []
  g_law_letters : mg "_law_letters" = some (.ref f_law_letters)
  f_law_fits : Addr
  fd_law_fits : FuncData
  F_law_fits : Fun K "_law_fits" "_law_fits" s_law_fits f_law_fits fd_law_fits
  b_law_fits : Binds K fd_law_fits ["_law_pattern", "_law_word"] []
  g_law_fits : mg "_law_fits" = some (.ref f_law_fits)
  f_law_numbers : Addr
  fd_law_numbers : FuncData
  F_law_numbers : Fun K "_law_numbers" "_law_numbers" s_law_numbers f_law_numbers fd_law_numbers
  b_law_numbers : Binds K fd_law_numbers ["_law_patterns_here", "_law_cells"] []
  g_law_numbers : mg "_law_numbers" = some (.ref f_law_numbers)
  f_law_decode : Addr
  fd_law_decode : FuncData
  F_law_decode : Fun K "_law_decode" "_law_decode" s_law_decode f_law_decode fd_law_decode
  b_law_decode : Binds K fd_law_decode ["_law_rows", "_law_cells"] []
  g_law_decode : mg "_law_decode" = some (.ref f_law_decode)
  f_law_patterns : Addr
  fd_law_patterns : FuncData
  F_law_patterns : Fun K "_law_patterns" "_law_patterns" s_law_patterns f_law_patterns fd_law_patterns
  b_law_patterns : Binds K fd_law_patterns ["_law_draws_here", "_law_word", "_law_registers", "_law_many"] []
  g_law_patterns : mg "_law_patterns" = some (.ref f_law_patterns)
  f_law_bent : Addr
  fd_law_bent : FuncData
  F_law_bent : Fun K "_law_bent" "_law_bent" s_law_bent f_law_bent fd_law_bent
  b_law_bent : Binds K fd_law_bent ["_law_draws_here", "_law_patterns_here"] []
  g_law_bent : mg "_law_bent" = some (.ref f_law_bent)
  f_law_form_rows : Addr
  fd_law_form_rows : FuncData
  F_law_form_rows : Fun K "_law_form_rows" "_law_form_rows" s_law_form_rows f_law_form_rows fd_law_form_rows
  b_law_form_rows : Binds K fd_law_form_rows ["_law_draws_here", "_law_word", "_law_registers", "_law_many"] []
  g_law_form_rows : mg "_law_form_rows" = some (.ref f_law_form_rows)
  f_law_clash : Addr
  fd_law_clash : FuncData
  F_law_clash : Fun K "_law_clash" "_law_clash" s_law_clash f_law_clash fd_law_clash
  b_law_clash : Binds K fd_law_clash ["_law_one", "_law_other"] []
  g_law_clash : mg "_law_clash" = some (.ref f_law_clash)
  f_law_apart : Addr
  fd_law_apart : FuncData
  F_law_apart : Fun K "_law_apart" "_law_apart" s_law_apart f_law_apart fd_law_apart
  b_law_apart : Binds K fd_law_apart ["_law_rows"] []
  g_law_apart : mg "_law_apart" = some (.ref f_law_apart)
  f_law_free : Addr
  fd_law_free : FuncData
  F_law_free : Fun K "_law_free" "_law_free" s_law_free f_law_free fd_law_free
  b_law_free : Binds K fd_law_free ["_law_patterns_here"] []
  g_law_free : mg "_law_free" = some (.ref f_law_free)
  f_law_counted : Addr
  fd_law_counted : FuncData
  F_law_counted : Fun K "_law_counted" "_law_counted" s_law_counted f_law_counted fd_law_counted
  b_law_counted : Binds K fd_law_counted ["_law_rows", "_law_word"] []
  g_law_counted : mg "_law_counted" = some (.ref f_law_counted)
  f_law_split : Addr
  fd_law_split : FuncData
  F_law_split : Fun K "_law_split" "_law_split" s_law_split f_law_split fd_law_split
  b_law_split : Binds K fd_law_split ["_law_draws_here", "_law_forms", "_law_word"] []
  g_law_split : mg "_law_split" = some (.ref f_law_split)
  f_law_full_rows : Addr
  fd_law_full_rows : FuncData
  F_law_full_rows : Fun K "_law_full_rows" "_law_full_rows" s_law_full_rows f_law_full_rows fd_law_full_rows
  b_law_full_rows : Binds K fd_law_full_rows ["_law_draws_here", "_law_word"] []
  g_law_full_rows : mg "_law_full_rows" = some (.ref f_law_full_rows)
  f_law_is_count : Addr
  fd_law_is_count : FuncData
  F_law_is_count : Fun K "_law_is_count" "_law_is_count" s_law_is_count f_law_is_count fd_law_is_count
  b_law_is_count : Binds K fd_law_is_count ["_law_book", "_law_rows", "_law_word"] []
  g_law_is_count : mg "_law_is_count" = some (.ref f_law_is_count)
  f_law : Addr
  fd_law : FuncData
  F_law : Fun K "law" "law" s_law f_law fd_law
  b_law : Binds K fd_law ["_law_script"] []
  g_law : mg "law" = some (.ref f_law)
  C_Form : Addr
  cl_Form : Cls K C_Form
  g_Form : mg "Form" = some (.ref C_Form)
  M_Form : Mk K C_Form f_Form_init
  nA_Form_name : NoAttr K C_Form "name"
  nA_Form_patterns : NoAttr K C_Form "patterns"
  nA_Form_lines : NoAttr K C_Form "lines"
  nA_Form_size : NoAttr K C_Form "size"
  nA_Form_letters : NoAttr K C_Form "letters"
  nA_Form_effect : NoAttr K C_Form "effect"
  nA_Form_goto : NoAttr K C_Form "goto"
  nA_Form_fixed : NoAttr K C_Form "fixed"
  C_Grammar : Addr
  cl_Grammar : Cls K C_Grammar
  g_Grammar : mg "Grammar" = some (.ref C_Grammar)
  M_Grammar : Mk K C_Grammar f_Grammar_init
  nA_Grammar_letters : NoAttr K C_Grammar "letters"
  nA_Grammar_numbers : NoAttr K C_Grammar "numbers"
  C_Book : Addr
  cl_Book : Cls K C_Book
  g_Book : mg "Book" = some (.ref C_Book)
  M_Book : Mk K C_Book f_Book_init
  nA_Book_word : NoAttr K C_Book "word"
  nA_Book_registers : NoAttr K C_Book "registers"
  nA_Book_forms : NoAttr K C_Book "forms"
  nA_Book__named : NoAttr K C_Book "_named"
  nA_Book__text : NoAttr K C_Book "_text"
  t_LETTERS : Tok
  c_LETTERS : mg "LETTERS" = some (.str "abcmn" t_LETTERS)
  a_EFFECTS : Addr
  c_EFFECTS : mg "EFFECTS" = some (.ref a_EFFECTS)
  v_EFFECTS : ∀ H, SqT K H a_EFFECTS [.str "write", .str "in", .str "out"]
  t_REGISTER_LETTERS : Tok
  c_REGISTER_LETTERS : mg "REGISTER_LETTERS" = some (.str "abc" t_REGISTER_LETTERS)
  t_NUMBER_LETTERS : Tok
  c_NUMBER_LETTERS : mg "NUMBER_LETTERS" = some (.str "mn" t_NUMBER_LETTERS)
  t_MOST_FORMS : Tok
  c_MOST_FORMS : mg "MOST_FORMS" = some (.int 32 t_MOST_FORMS)
  t_MOST_PATTERNS : Tok
  c_MOST_PATTERNS : mg "MOST_PATTERNS" = some (.int 3 t_MOST_PATTERNS)
  t_MOST_LINES : Tok
  c_MOST_LINES : mg "MOST_LINES" = some (.int 12 t_MOST_LINES)
  t_SMALL_LETTERS : Tok
  c_SMALL_LETTERS : mg "SMALL_LETTERS" = some (.str "abcdefghijklmnopqrstuvwxyz" t_SMALL_LETTERS)
  t_MOST_CELLS : Tok
  c_MOST_CELLS : mg "MOST_CELLS" = some (.int 3 t_MOST_CELLS)
  n_len : mg "len" = none
  n_list : mg "list" = none
  n_tuple : mg "tuple" = none
  n_int : mg "int" = none
  n_str : mg "str" = none
  n_min : mg "min" = none
  n_range : mg "range" = none
  n_isinstance : mg "isinstance" = none
  n_bool : mg "bool" = none
  n_sum : mg "sum" = none
  n_all : mg "all" = none
  n_any : mg "any" = none
  n_enumerate : mg "enumerate" = none
  n_zip : mg "zip" = none
end My

/-! B -/
namespace My
open PySem L2
local macro_rules | `(tactic| walk_at "side") => `(tactic| first | with_reducible rfl | assumption | rfl | decide | omega | exact cpow1 (by omega) (by omega) | exact cdiv (by omega) (by omega) | exact two_pos _ | exact SqL.of (by assumption) | exact SqT.of (by assumption) | exact TyX.base (TyOf.int _) | exact TyX.base (TyOf.bl _) | exact TyX.base TyOf.non | exact scal_opt _ _ | exact k_ii | exact k_bi | exact k_ni | exact k_ib | exact k_bb | exact TyX.base (TyOf.lst (by assumption)) | exact k_ll | exact k_lt)
local macro_rules | `(tactic| walk_at "p") => `(tactic| repeat (first | refine And.intro (by walk_at "side") ?_ | apply Exists.intro | refine iteN (by assumption) ?_ | refine iteP (by assumption) ?_ | refine iteN (by decide) ?_ | refine iteP (by decide) ?_))

def plain4 : V → Bool | .int _ => true | .bl _ => true | .non => true | .str _ => true | _ => false
def isI : V → Bool | .int _ => true | _ => false
def isW (w : Nat) : V → Bool | .int i => decide (0 ≤ i ∧ i < 2 ^ w) | _ => false
def tyn : V → String | .int _ => "int" | .bl _ => "bool" | .non => "NoneType" | .str _ => "str" | _ => ""
theorem ty4 {K : PySem.W.Frag} {H : Hp} {x : V} (h : plain4 x = true) : TyX K H x (.type (tyn x)) := by
  cases x <;> (try cases h)
  · exact TyX.base TyOf.non
  · exact TyX.base (TyOf.bl _)
  · exact TyX.base (TyOf.int _)
  · exact TyX.base (TyOf.str _)
theorem kq_int_int : kitB "int" "int" = some true := by decide +kernel
theorem kq_bl_int : kitB "bool" "int" = some true := by decide +kernel
theorem kq_non_int : kitB "NoneType" "int" = some false := by decide +kernel
theorem kq_str_int : kitB "str" "int" = some false := by decide +kernel
theorem kq_int_bool : kitB "int" "bool" = some false := by decide +kernel
theorem kq_bl_bool : kitB "bool" "bool" = some true := by decide +kernel
theorem kq_non_bool : kitB "NoneType" "bool" = some false := by decide +kernel
theorem kq_str_bool : kitB "str" "bool" = some false := by decide +kernel
theorem kq_int_list : kitB "int" "list" = some false := by decide +kernel
theorem kq_bl_list : kitB "bool" "list" = some false := by decide +kernel
theorem kq_non_list : kitB "NoneType" "list" = some false := by decide +kernel
theorem kq_str_list : kitB "str" "list" = some false := by decide +kernel
theorem kq_int_tuple : kitB "int" "tuple" = some false := by decide +kernel
theorem kq_bl_tuple : kitB "bool" "tuple" = some false := by decide +kernel
theorem kq_non_tuple : kitB "NoneType" "tuple" = some false := by decide +kernel
theorem kq_str_tuple : kitB "str" "tuple" = some false := by decide +kernel
theorem kq_int_str : kitB "int" "str" = some false := by decide +kernel
theorem kq_bl_str : kitB "bool" "str" = some false := by decide +kernel
theorem kq_non_str : kitB "NoneType" "str" = some false := by decide +kernel
theorem kq_str_str : kitB "str" "str" = some true := by decide +kernel
def v4_i (x : V) : Bool := match x with | .int _ => true | .bl _ => true | _ => false
theorem k_4i {x : V} (h : plain4 x = true) : kitB (tyn x) "int" = some (v4_i x) := by
  cases x with
  | int i => exact kq_int_int
  | bl b => exact kq_bl_int
  | non => exact kq_non_int
  | str z => exact kq_str_int
  | _ => cases h
def v4_b (x : V) : Bool := match x with | .bl _ => true | _ => false
theorem k_4b {x : V} (h : plain4 x = true) : kitB (tyn x) "bool" = some (v4_b x) := by
  cases x with
  | int i => exact kq_int_bool
  | bl b => exact kq_bl_bool
  | non => exact kq_non_bool
  | str z => exact kq_str_bool
  | _ => cases h
def v4_s (x : V) : Bool := match x with | .str _ => true | _ => false
theorem k_4s {x : V} (h : plain4 x = true) : kitB (tyn x) "str" = some (v4_s x) := by
  cases x with
  | int i => exact kq_int_str
  | bl b => exact kq_bl_str
  | non => exact kq_non_str
  | str z => exact kq_str_str
  | _ => cases h
def v4_l (x : V) : Bool := false
theorem k_4l {x : V} (h : plain4 x = true) : kitB (tyn x) "list" = some (v4_l x) := by
  cases x with
  | int i => exact kq_int_list
  | bl b => exact kq_bl_list
  | non => exact kq_non_list
  | str z => exact kq_str_list
  | _ => cases h
def v4_t (x : V) : Bool := false
theorem k_4t {x : V} (h : plain4 x = true) : kitB (tyn x) "tuple" = some (v4_t x) := by
  cases x with
  | int i => exact kq_int_tuple
  | bl b => exact kq_bl_tuple
  | non => exact kq_non_tuple
  | str z => exact kq_str_tuple
  | _ => cases h
section
variable {P : Program} {w : World} {K : PySem.W.Frag} {mg : Str → Option Value} {base : Heap}
def sp_is_int (_ : Txt K mg) : Sp := fun vs H Q _ => ∃ x, vs = [x] ∧ plain4 x = true ∧ Q (.bl (isI x)) H
theorem sp_is_int_len {T : Txt K mg} {vs H Q E} (h : sp_is_int T vs H Q E) : vs.length = 1 := by obtain ⟨_, rfl, _⟩ := h; rfl
theorem ok_is_int (T : Txt K mg) : FnOk P w K mg base CX0 1 T.f_is_int T.fd_is_int ["value"] (sp_is_int T) := by
  skip
  refine T.F_is_int.ok sc_is_int (fun vs H Q E h => sp_is_int_len h) (fun cdv A outer s H vs Q E hr h => ?_)
  obtain ⟨x, rfl, hp, k⟩ := h
  refine ⟨_, (pss_one (ps_ret (pe_and (pe_callB call_isTy (by rfl) T.n_isinstance (by decide +kernel) (pa_cons (pv 0) (pa_cons (pe_bltn (v := .ty "int") (by rfl) T.n_int (by decide +kernel) rfl) pa_nil))) (pe_one (pe_not (pe_callB call_isTy (by rfl) T.n_isinstance (by decide +kernel) (pa_cons (pv 0) (pa_cons (pe_bltn (v := .ty "bool") (by rfl) T.n_bool (by decide +kernel) rfl) pa_nil)))))))), ?_⟩
  refine ⟨_, rfl, _, _, "int", rfl, ty4 hp, _, k_4i hp, ?_⟩
  cases x with
  | int i => exact ⟨_, rfl, iteP rfl ⟨_, rfl, _, _, _, rfl, ty4 (by rfl), _, k_4b (by rfl), _, rfl, k⟩⟩
  | bl b => exact ⟨_, rfl, iteP rfl ⟨_, rfl, _, _, _, rfl, ty4 (by rfl), _, k_4b (by rfl), _, rfl, k⟩⟩
  | non => exact ⟨_, rfl, iteN (fun z => by cases z) k⟩
  | str z => exact ⟨_, rfl, iteN (fun z => by cases z) k⟩
  | _ => cases hp
def sp_is_row (_ : Txt K mg) : Sp := fun vs H Q _ => (∃ a xs, vs = [.ref a] ∧ Row H a xs ∧ ∀ H', Same H H' → Q (.bl true) H') ∨ (∃ x, vs = [x] ∧ plain4 x = true ∧ ∀ H', Same H H' → Q (.bl false) H')
theorem sp_is_row_len {T : Txt K mg} {vs H Q E} (h : sp_is_row T vs H Q E) : vs.length = 1 := by
  rcases h with ⟨_, _, rfl, _⟩ | ⟨_, rfl, _⟩ <;> rfl
theorem ok_is_row (T : Txt K mg) : FnOk P w K mg base CX0 1 T.f_is_row T.fd_is_row ["value"] (sp_is_row T) := by
  skip
  refine T.F_is_row.ok sc_is_row (fun vs H Q E h => sp_is_row_len h) (fun cdv A outer s H vs Q E hr h => ?_)
  rcases h with ⟨a, xs, rfl, ha, k⟩ | ⟨x, rfl, hx, k⟩
  · refine ⟨_, (pss_one (ps_ret (pe_callB call_isTy2 (by rfl) T.n_isinstance (by decide +kernel) (pa_cons (pv 0) (pa_cons (pe_tup (pa_cons (pe_bltn (v := .ty "list") (by rfl) T.n_list (by decide +kernel) rfl) (pa_cons (pe_bltn (v := .ty "tuple") (by rfl) T.n_tuple (by decide +kernel) rfl) pa_nil))) pa_nil))))), ?_⟩
    refine ⟨_, rfl, by show 2 ≤ sizeLine; decide, fun p hp => ?_⟩
    have s1 := same_new (o := .tup [.ty "list", .ty "tuple"]) hp
    rcases ha with ha | ha
    · exact ⟨_, _, _, _, _, rfl, upd_same, .base (.lst (s1 _ _ ha)), _, _, k_ll, k_lt, k _ s1⟩
    · exact ⟨_, _, _, _, _, rfl, upd_same, .base (.tup (s1 _ _ ha)), _, _, k_tl, k_tt, k _ s1⟩
  · refine ⟨_, (pss_one (ps_ret (pe_callB call_isTy2 (by rfl) T.n_isinstance (by decide +kernel) (pa_cons (pv 0) (pa_cons (pe_tup (pa_cons (pe_bltn (v := .ty "list") (by rfl) T.n_list (by decide +kernel) rfl) (pa_cons (pe_bltn (v := .ty "tuple") (by rfl) T.n_tuple (by decide +kernel) rfl) pa_nil))) pa_nil))))), ?_⟩
    refine ⟨_, rfl, by show 2 ≤ sizeLine; decide, fun p hp => ?_⟩
    have s1 := same_new (o := .tup [.ty "list", .ty "tuple"]) hp
    exact ⟨_, _, _, _, _, rfl, upd_same, ty4 hx, _, _, k_4l hx, k_4t hx, k _ s1⟩
def sp_check_int (_ : Txt K mg) : Sp := fun vs H Q _ => ∃ (v lo hi : Int) (n : V), vs = [.int v, .int lo, .int hi, n] ∧ lo ≤ v ∧ v ≤ hi ∧ Q (.int v) H
theorem sp_check_int_len {T : Txt K mg} {vs H Q E} (h : sp_check_int T vs H Q E) : vs.length = 4 := by obtain ⟨_, _, _, _, rfl, _⟩ := h; rfl
theorem ok_check_int (T : Txt K mg) : FnOk P w K mg base CX0 2 T.f_check_int T.fd_check_int ["value", "low", "high", "name"] (sp_check_int T) := by
  have G_is_int := ok_is_int (P := P) (w := w) (base := base) T
  refine T.F_check_int.ok sc_check_int (fun vs H Q E h => sp_check_int_len h) (fun cdv A outer s H vs Q E hr h => ?_)
  obtain ⟨v, lo, hi, n, rfl, h1, h2, k⟩ := h
  refine ⟨_, (pss_cons (ps_if (PW.pt (pw_or (pt_not (pt_val (pe_call G_is_int hr rfl T.g_is_int T.F_is_int.kp T.b_is_int .nil pass0 (pa_cons (pv 0) pa_nil)))) (pw_or1 (pt_cmpR op_lt (pv 0) (pv 1) (nomark _)))))
        (pss_one ps_never)
        pss_nil)
       (pss_cons (ps_if (PW.pt (pw_and (pt_cmpR op_notN (pv 2) pe_non (nomark _)) (pw_and1 (pt_cmpR op_gt (pv 0) (pv 2) (nomark _)))))
        (pss_one ps_never)
        pss_nil)
       (pss_one (ps_ret (pv 0))))), ?_⟩
  have e1 : ¬ decide (v < lo) = true := fun z => absurd (of_decide_eq_true z) (by omega)
  have e2 : ¬ decide (hi < v) = true := fun z => absurd (of_decide_eq_true z) (by omega)
  walk_at "p"
  exact k
def sp_letters_for (_ : Txt K mg) : Sp := fun vs H Q _ => ∃ z : Str, vs = [.str z] ∧ ∀ z' : Str, z'.length ≤ 3 → Q (.str z') H
theorem sp_letters_for_len {T : Txt K mg} {vs H Q E} (h : sp_letters_for T vs H Q E) : vs.length = 1 := by obtain ⟨_, rfl, _⟩ := h; rfl
theorem ok_letters_for (T : Txt K mg) : FnOk P w K mg base CX0 1 T.f_letters_for T.fd_letters_for ["sign"] (sp_letters_for T) := by
  skip
  refine T.F_letters_for.ok sc_letters_for (fun vs H Q E h => sp_letters_for_len h) (fun cdv A outer s H vs Q E hr h => ?_)
  obtain ⟨z, rfl, k⟩ := h
  refine ⟨_, (pss_cons (ps_if (pt_cmpR op_eq (pv 0) pe_str (nomark _))
        (pss_one (ps_ret (pe_glob (v := .str "abc") rfl T.c_REGISTER_LETTERS ⟨_, rfl⟩)))
        pss_nil)
       (pss_one (ps_ret (pe_ifExp (pt_cmpR op_eq (pv 0) pe_str (nomark _)) (pe_glob (v := .str "mn") rfl T.c_NUMBER_LETTERS ⟨_, rfl⟩) pe_str)))), ?_⟩
  refine ⟨_, rfl, rfl, _, rfl, ite2d (fun _ => k _ (by decide)) fun _ => ?_⟩
  exact ⟨_, rfl, rfl, _, rfl, ite2d (fun _ => k _ (by decide)) fun _ => k _ (by decide)⟩
end
end My

/-! C -/
namespace My
open PySem L2
local macro_rules | `(tactic| walk_at "side") => `(tactic| first | with_reducible rfl | assumption | rfl | decide | omega | exact cpow1 (by omega) (by omega) | exact cdiv (by omega) (by omega) | exact two_pos _ | exact SqL.of (by assumption) | exact SqT.of (by assumption) | exact TyX.base (TyOf.int _) | exact TyX.base (TyOf.bl _) | exact TyX.base TyOf.non | exact scal_opt _ _ | exact k_ii | exact k_bi | exact k_ni | exact k_ib | exact k_bb | exact TyX.base (TyOf.lst (by assumption)) | exact k_ll | exact k_lt)
local macro_rules | `(tactic| walk_at "p") => `(tactic| repeat (first | refine And.intro (by walk_at "side") ?_ | apply Exists.intro | refine iteN (by assumption) ?_ | refine iteP (by assumption) ?_ | refine iteN (by decide) ?_ | refine iteP (by decide) ?_))

section
variable {P : Program} {w : World} {K : PySem.W.Frag} {mg : Str → Option Value} {base : Heap}
def sp_letters_of (_ : Txt K mg) : Sp := fun vs H Q _ => ∃ (a : Addr) (ps : List Str), vs = [.ref a] ∧ Row H a (ps.map V.str) ∧ lens ps ≤ 1000 ∧ ∀ (H' : Hp) (t : Addr), Same H H' → H t = none → LettersAt H' t (lettersM (ps.map fun z => z.cps.toList)) → Q (.ref t) H'
theorem sp_letters_of_len {T : Txt K mg} {vs H Q E} (h : sp_letters_of T vs H Q E) : vs.length = 1 := by obtain ⟨_, _, rfl, _⟩ := h; rfl
theorem ok_letters_of (T : Txt K mg) : FnOk P w K mg base CX0 1 T.f_letters_of T.fd_letters_of ["patterns"] (sp_letters_of T) := by
  skip
  refine T.F_letters_of.ok sc_letters_of (fun vs H Q E h => sp_letters_of_len h) (fun cdv A outer s H vs Q E hr h => ?_)
  obtain ⟨a, ps, rfl, ha, hl, k⟩ := h
  refine ⟨_, (pss_cons (ps_set (i := 1) sc_letters_of.nd rfl (Or.inr rfl) (pe_join pe_str (pv 0)))
       (pss_one (ps_ret (pe_callTy call_tupleL (by rfl) T.n_tuple (by decide +kernel) (pa_cons (pe_lc (own := [("letter", 2)]) rfl sc_letters_of.nd (pi_str (pe_glob (v := .str "abcmn") rfl T.c_LETTERS ⟨_, rfl⟩)) (blkOk_by (N := ["patterns", "signs", "letter"]) (sc := defScope s_letters_of) (by decide +kernel)) (fun _ _ _ _ _ => by (apply pg_tr; exact pg_name (i := 2) sc_letters_of.nd rfl (Or.inl rfl); (try dsimp only [Cx.blk]) <;> exact rfl)) (fun _ _ _ _ _ => by (apply pts_tr; exact (pts_one (pt_cmpR op_in_sign (pv 2) (pv 1) (by rfl))); (try dsimp only [Cx.blk]) <;> exact rfl)) (fun _ _ _ _ _ => by (apply pe_tr; exact (pe_tup (pa_cons (pv 2) (pa_cons (pe_m1 PySem.F.slot_str_count PySem.F.type_str_count mt_count (pv 1) (pv 2)) pa_nil))); (try dsimp only [Cx.blk]) <;> exact rfl))) pa_nil))))), ?_⟩
  have ha' : SqL K H a (ps.map V.str) ∨ SqT K H a (ps.map V.str) := ha.elim (fun z => .inl (SqL.of z)) fun z => .inr (SqT.of z)
  have e0 : ("" : Str).length = 0 := by decide
  refine ⟨⟨_, rfl⟩, _, rfl, _, a, ps, rfl, rfl, ha', by rw [e0]; unfold lens at hl; omega, ?_⟩
  refine ⟨_, rfl, fun D hD => ?_⟩
  have ez := join_l ps
  have eL : ("abcmn" : Str).cps.toList = lettersN := by decide
  have sD := same_new (o := .lst []) hD
  refine lc_it walk_str (fun i H1 => ∃ ts, Same H H1 ∧ H1 D = some (.lst ts) ∧ ts.length ≤ i ∧ Refs H1 ts (((lettersN.take i).filter fun c => decide (c ∈ (ps.map fun z => z.cps.toList).flatten)).map fun c => (c, (ps.map fun z => z.cps.toList).flatten.count c)) LetAt) ⟨[], sD, upd_same, Nat.le_refl _, Refs.nil⟩ (fun _ _ _ _ => trivial) ?_ ?_
  · rintro i x H1 H2 hi ⟨ts, s1, h1, hl1, h2⟩ ⟨rfl, c, hc, rfl⟩
    have hc' : lettersN[i]? = some c := by rw [← eL, Array.getElem?_toList]; exact hc
    have hi5 : i < 5 := (List.getElem?_eq_some_iff.mp hc').1
    have et : lettersN.take (i + 1) = lettersN.take i ++ [c] := by rw [List.take_succ, hc']; rfl
    have sz : sizeLine = 16777216 := sizeLine_eq
    refine ⟨rfl, _, rfl, _, rfl, c, _, rfl, rfl, _, rfl, ite2d (fun hm => ?_) fun hm => ?_⟩
    · rw [ez] at hm
      refine ⟨_, rfl, _, rfl, ⟨_, rfl⟩, _, rfl, _, _, rfl, rfl, ?_⟩
      refine ⟨by show 2 ≤ sizeLine; decide, fun t ht => ⟨ts, by rw [upd_ne (ne_of_none h1 ht)]; exact h1, by omega, ?_⟩⟩
      have Dt : D ≠ t := ne_of_none h1 ht
      refine ⟨ts ++ [.ref t], fun b o e => ?_, upd_same, by simp; omega, ?_⟩
      · have bD : b ≠ D := fun z => by rw [z, hD] at e; cases e
        rw [upd_ne bD, upd_ne (ne_of_none (s1 _ _ e) ht)]; exact s1 _ _ e
      · rw [et, List.filter_append, List.map_append, List.filter_cons_of_pos (by simpa using hm)]
        refine Refs.snoc (h2.map fun u q _ r => ?_) ?_
        · have uD : u ≠ D := ne_of r h1 (by intro z; cases z)
          show upd _ D _ u = _
          rw [upd_ne uD, upd_ne (ne_of_none r ht)]; exact r
        · show upd _ D _ t = _
          rw [upd_ne Dt.symm, upd_same, count_l, ez]
          rfl
    · rw [ez] at hm
      refine ⟨ts, s1, h1, by omega, ?_⟩
      rw [et, List.filter_append, List.map_append, List.filter_cons_of_neg (by simpa using hm)]
      simpa using h2
  · rintro H1 ⟨ts, s1, h1, _, h2⟩
    refine ⟨D, ts, rfl, SqL.of h1, fun t ht => ?_⟩
    have s2 := same_new (o := .tup ts) ht
    have e5 : lettersN.take ("abcmn" : Str).cps.size = lettersN := by decide
    rw [e5] at h2
    exact k _ t (s1.trans s2) (s1.free ht) ⟨ts, upd_same, h2.map fun u q _ r => s2 _ _ r⟩
def sp_fixed_bits (_ : Txt K mg) : Sp := fun vs H Q _ => ∃ z : Str, vs = [.str z] ∧ z.length ≤ 64 ∧ ∀ (H' : Hp) (t : Addr), Same H H' → H t = none → H' t = some (.tup [.int (mskN z.cps.toList : Nat), .int (bitN z.cps.toList : Nat)]) → Q (.ref t) H'
theorem sp_fixed_bits_len {T : Txt K mg} {vs H Q E} (h : sp_fixed_bits T vs H Q E) : vs.length = 1 := by obtain ⟨_, rfl, _⟩ := h; rfl
theorem ok_fixed_bits (T : Txt K mg) : FnOk P w K mg base CX0 1 T.f_fixed_bits T.fd_fixed_bits ["pattern"] (sp_fixed_bits T) := by
  skip
  refine T.F_fixed_bits.ok sc_fixed_bits (fun vs H Q E h => sp_fixed_bits_len h) (fun cdv A outer s H vs Q E hr h => ?_)
  obtain ⟨z, rfl, hl, k⟩ := h
  refine ⟨_, (pss_cons (ps_set (i := 1) sc_fixed_bits.nd rfl (Or.inl rfl) (pe_listEnS rfl (pe_revS (pv 0)) rfl T.n_list rfl T.n_enumerate))
       (pss_cons (ps_set (i := 2) sc_fixed_bits.nd rfl (Or.inl rfl) (pe_callB (cr_sum rfl) (by rfl) T.n_sum (by decide +kernel) (pa_cons (pe_lc (own := [("at", 3), ("sign", 4)]) rfl sc_fixed_bits.nd (pi_list (pv 1)) (blkOk_by (N := ["pattern", "places", "mask", "at", "sign"]) (sc := defScope s_fixed_bits) (by decide +kernel)) (fun _ _ _ _ _ => by (apply pg_tr; exact (pg_tup (n := 2) rfl (pgs_cons (pg_name (i := 3) sc_fixed_bits.nd rfl (Or.inl rfl)) (pgs_cons (pg_name (i := 4) sc_fixed_bits.nd rfl (Or.inl rfl)) pgs_nil))); (try dsimp only [Cx.blk]) <;> exact rfl)) (fun _ _ _ _ _ => by (apply pts_tr; exact (pts_one (pt_cmpR op_in_sign (pv 4) pe_str (by rfl))); (try dsimp only [Cx.blk]) <;> exact rfl)) (fun _ _ _ _ _ => by (apply pe_tr; exact (pe_op op_shl pe_int (pv 3)); (try dsimp only [Cx.blk]) <;> exact rfl))) pa_nil)))
       (pss_one (ps_ret (pe_tup (pa_cons (pv 2) (pa_cons (pe_callB (cr_sum rfl) (by rfl) T.n_sum (by decide +kernel) (pa_cons (pe_lc (own := [("at", 3), ("sign", 4)]) rfl sc_fixed_bits.nd (pi_list (pv 1)) (blkOk_by (N := ["pattern", "places", "mask", "at", "sign"]) (sc := defScope s_fixed_bits) (by decide +kernel)) (fun _ _ _ _ _ => by (apply pg_tr; exact (pg_tup (n := 2) rfl (pgs_cons (pg_name (i := 3) sc_fixed_bits.nd rfl (Or.inl rfl)) (pgs_cons (pg_name (i := 4) sc_fixed_bits.nd rfl (Or.inl rfl)) pgs_nil))); (try dsimp only [Cx.blk]) <;> exact rfl)) (fun _ _ _ _ _ => by (apply pts_tr; exact (pts_one (pt_cmpR op_eq (pv 4) pe_str (nomark _))); (try dsimp only [Cx.blk]) <;> exact rfl)) (fun _ _ _ _ _ => by (apply pe_tr; exact (pe_op op_shl pe_int (pv 3)); (try dsimp only [Cx.blk]) <;> exact rfl))) pa_nil)) pa_nil))))))), ?_⟩
  have sz : sizeLine = 16777216 := sizeLine_eq
  refine ⟨_, rfl, z, rfl, by omega, revS z, rfl, by rw [revS_len]; omega, ?_⟩
  rw [revS_len]
  intro H1 p ts s1 p0 t0 pts nd tl hp ht
  have er : ∀ i, sgn (revS z) i = .str ⟨#[z.cps.toList.reverse.getD i 0]⟩ := fun i => by
    unfold sgn revS
    rw [Array.getD_eq_getD_getElem?, List.getElem?_toArray, List.getD_eq_getElem?_getD]
  have it : ∀ (i : Nat) (x : V), (ts.map V.ref)[i]? = some x → ∃ t, ts[i]? = some t ∧ x = V.ref t := fun i x e => by
    rw [List.getElem?_map] at e
    cases h : ts[i]? with
    | none => rw [h] at e; cases e
    | some t => rw [h] at e; exact ⟨t, rfl, (Option.some.inj e).symm⟩
  have hlen : (ts.map V.ref).length = z.cps.toList.length := by rw [List.length_map, tl, Array.length_toList]; rfl
  have hz64 : z.cps.toList.length ≤ 64 := by rw [Array.length_toList]; exact hl
  refine ⟨_, rfl, p, rfl, ⟨_, SqL.of hp⟩, fun D hD => ?_⟩
  refine lc_it (walk_list (xs := ts.map V.ref)) (fun i H2 => ∃ ns : List Int, Same H1 H2 ∧ H2 D = some (.lst (ns.map V.int)) ∧ ns.length ≤ i ∧ ns.sum = ((selS is01 z.cps.toList.reverse i : Nat) : Int)) ⟨[], same_new hD, upd_same, Nat.le_refl _, rfl⟩ (fun i H2 _ ⟨_, s2, _⟩ => SqL.of (s2 _ _ hp)) ?_ ?_
  · rintro i x H2 H3 hi ⟨ns, s2, h2, hl2, hs2⟩ ⟨rfl, hx⟩
    obtain ⟨t, e1, rfl⟩ := it i x hx
    have h3 := s2 _ _ (ht i t e1)
    dsimp only at h3
    rw [er i] at h3
    refine ⟨t, _, rfl, SqT.of h3, rfl, _, _, rfl, _, _, rfl, rfl, rfl, _, rfl, _, _, rfl, rfl, _, rfl, ?_⟩
    rw [in01]
    refine iteB (fun c => ?_) fun c => ?_
    · refine ⟨_, rfl, _, _, rfl, rfl, cpow1 (by omega) (by omega), ns.map V.int, h2, by rw [List.length_map]; omega, ns ++ [1 * 2 ^ ((i : Nat) : Int).toNat], fun b o e => ?_, by rw [upd_same, List.map_append]; rfl, by simp; omega, ?_⟩
      · have bD : b ≠ D := fun z => by rw [z, hD] at e; cases e
        rw [upd_ne bD]; exact s2 _ _ e
      · rw [List.sum_append, hs2, selS, if_pos c, Int.toNat_natCast]
        simp
    · exact ⟨ns, s2, h2, by omega, by rw [hs2, selS, if_neg (by rw [c]; decide)]; simp⟩
  rintro H2 ⟨ns, s2, h2, _, hs2⟩
  rw [hlen, selS_msk] at hs2
  refine ⟨D, ns, rfl, SqL.of h2, ?_⟩
  rw [hs2]
  have hp2 := s2 _ _ hp
  refine ⟨_, rfl, _, rfl, p, rfl, ⟨_, SqL.of hp2⟩, fun D2 hD2 => ?_⟩
  refine lc_it (walk_list (xs := ts.map V.ref)) (fun i H3 => ∃ ns : List Int, Same H2 H3 ∧ H3 D2 = some (.lst (ns.map V.int)) ∧ ns.length ≤ i ∧ ns.sum = ((selS (fun c => c == 49) z.cps.toList.reverse i : Nat) : Int)) ⟨[], same_new hD2, upd_same, Nat.le_refl _, rfl⟩ (fun i H2 _ ⟨_, s3, _⟩ => SqL.of (s3 _ _ hp2)) ?_ ?_
  · rintro i x H3 H4 hi ⟨ns, s3, h3, hl3, hs3⟩ ⟨rfl, hx⟩
    obtain ⟨t, e1, rfl⟩ := it i x hx
    have h4 := s3 _ _ (s2 _ _ (ht i t e1))
    dsimp only at h4
    rw [er i] at h4
    refine ⟨t, _, rfl, SqT.of h4, rfl, _, _, rfl, _, _, rfl, rfl, rfl, _, rfl, rfl, _, rfl, ?_⟩
    rw [eqSg (d := 49) (by decide)]
    refine iteB (fun c => ?_) fun c => ?_
    · refine ⟨_, rfl, _, _, rfl, rfl, cpow1 (by omega) (by omega), ns.map V.int, h3, by rw [List.length_map]; omega, ns ++ [1 * 2 ^ ((i : Nat) : Int).toNat], fun b o e => ?_, by rw [upd_same, List.map_append]; rfl, by simp; omega, ?_⟩
      · have bD : b ≠ D2 := fun z => by rw [z, hD2] at e; cases e
        rw [upd_ne bD]; exact s3 _ _ e
      · rw [List.sum_append, hs3, selS, if_pos c, Int.toNat_natCast]
        simp
    · exact ⟨ns, s3, h3, by omega, by rw [hs3, selS, if_neg (by rw [c]; decide)]; simp⟩
  rintro H3 ⟨ns, s3, h3, _, hs3⟩
  rw [hlen, selS_bit] at hs3
  refine ⟨D2, ns, rfl, SqL.of h3, ?_⟩
  rw [hs3]
  refine ⟨by show 2 ≤ sizeLine; decide, fun t ht => ?_⟩
  have s4 := ((s1.trans s2).trans s3)
  exact k _ t (s4.trans (same_new ht)) (s4.free ht) upd_same
end
end My

/-! D -/
namespace My
open PySem L2
local macro_rules | `(tactic| walk_at "side") => `(tactic| first | with_reducible rfl | assumption | rfl | decide | omega | exact cpow1 (by omega) (by omega) | exact cdiv (by omega) (by omega) | exact two_pos _ | exact SqL.of (by assumption) | exact SqT.of (by assumption) | exact TyX.base (TyOf.int _) | exact TyX.base (TyOf.bl _) | exact TyX.base TyOf.non | exact scal_opt _ _ | exact k_ii | exact k_bi | exact k_ni | exact k_ib | exact k_bb | exact TyX.base (TyOf.lst (by assumption)) | exact k_ll | exact k_lt)
local macro_rules | `(tactic| walk_at "p") => `(tactic| repeat (first | refine And.intro (by walk_at "side") ?_ | apply Exists.intro | refine iteN (by assumption) ?_ | refine iteP (by assumption) ?_ | refine iteN (by decide) ?_ | refine iteP (by decide) ?_))

section
variable {P : Program} {w : World} {K : PySem.W.Frag} {mg : Str → Option Value} {base : Heap}
def sp_is_name (_ : Txt K mg) : Sp := fun vs H Q _ => ∃ z : Str, vs = [.str z] ∧ nameOk z ∧ ∀ H', Same H H' → Q (.bl true) H'
theorem sp_is_name_len {T : Txt K mg} {vs H Q E} (h : sp_is_name T vs H Q E) : vs.length = 1 := by obtain ⟨_, rfl, _⟩ := h; rfl
theorem ok_is_name (T : Txt K mg) : FnOk P w K mg base CX0 1 T.f_is_name T.fd_is_name ["name"] (sp_is_name T) := by
  skip
  refine T.F_is_name.ok sc_is_name (fun vs H Q E h => sp_is_name_len h) (fun cdv A outer s H vs Q E hr h => ?_)
  obtain ⟨z, rfl, ⟨h1, h8, hc⟩, k⟩ := h
  refine ⟨_, (pss_cons (ps_if (PW.pt (pw_or (pt_not (pt_val (pe_callB call_isTy (by rfl) T.n_isinstance (by decide +kernel) (pa_cons (pv 0) (pa_cons (pe_bltn (v := .ty "str") (by rfl) T.n_str (by decide +kernel) rfl) pa_nil))))) (pw_or1 (pt_not (pt_chain op_le op_le pe_int (pe_callB call_len_str (by rfl) T.n_len (by decide +kernel) (pa_cons (pv 0) pa_nil)) pe_int)))))
        (pss_one (ps_ret pe_bl))
        pss_nil)
       (pss_one (ps_ret (pe_callB (cr_all rfl) (by rfl) T.n_all (by decide +kernel) (pa_cons (pe_lc (own := [("sign", 1)]) rfl sc_is_name.nd (pi_str (pv 0)) (blkOk_by (N := ["name", "sign"]) (sc := defScope s_is_name) (by decide +kernel)) (fun _ _ _ _ _ => by (apply pg_tr; exact pg_name (i := 1) sc_is_name.nd rfl (Or.inl rfl); (try dsimp only [Cx.blk]) <;> exact rfl)) (fun _ _ _ _ _ => by (apply pts_tr; exact pts_nil; (try dsimp only [Cx.blk]) <;> exact rfl)) (fun _ _ _ _ _ => by (apply pe_tr; exact (pe_cmpR op_in_sign (pv 1) (pe_glob (v := .str "abcdefghijklmnopqrstuvwxyz") rfl T.c_SMALL_LETTERS ⟨_, rfl⟩) (by rfl)); (try dsimp only [Cx.blk]) <;> exact rfl))) pa_nil))))), ?_⟩
  have sz : sizeLine = 16777216 := sizeLine_eq
  have d1 : decide ((1 : Int) ≤ (z.length : Nat)) = true := dT (by omega)
  have d2 : decide (((z.length : Nat) : Int) ≤ 8) = true := dT (by omega)
  refine ⟨_, rfl, _, _, _, rfl, ty4 (by rfl), _, k_4s (by rfl), _, rfl, iteN (fun q => by cases q) ?_⟩
  have hz : z.length ≤ sizeLine := by omega
  have d3 := nF d2
  walk_at "p"
  intro D hD
  refine lc_it walk_str (fun i H1 => Same H H1 ∧ H1 D = some (.lst ((List.replicate i true).map V.bl))) ⟨same_new hD, upd_same⟩ (fun _ _ _ _ => trivial) ?_ ?_
  · rintro i x H1 H2 hi ⟨s1, h1⟩ ⟨rfl, c, hc', rfl⟩
    have hm : c ∈ z.cps.toList := by
      rw [← Array.getElem?_toList] at hc'
      exact List.mem_of_getElem? hc'
    refine ⟨rfl, _, rfl, c, _, rfl, rfl, _, h1, by rw [List.length_map, List.length_replicate]; have : z.cps.size = z.length := rfl; omega, fun b o e => ?_, ?_⟩
    · have bD : b ≠ D := fun z => by rw [z, hD] at e; cases e
      rw [upd_ne bD]; exact s1 _ _ e
    · rw [upd_same, smallL c (hc c hm), rep_snoc]
  · rintro H1 ⟨s1, h1⟩
    refine ⟨D, _, rfl, SqL.of h1, ?_⟩
    rw [all_rep]
    exact k _ s1
def sp_is_pattern (_ : Txt K mg) : Sp := fun vs H Q _ => ∃ (z : Str) (n : Nat), vs = [.int (n : Nat), .str z] ∧ z.length = n ∧ n ≤ 64 ∧ (∀ c ∈ z.cps.toList, okS c = true) ∧ ∀ H', Same H H' → Q (.bl true) H'
theorem sp_is_pattern_len {T : Txt K mg} {vs H Q E} (h : sp_is_pattern T vs H Q E) : vs.length = 2 := by obtain ⟨_, _, rfl, _⟩ := h; rfl
theorem ok_is_pattern (T : Txt K mg) : FnOk P w K mg base CX0 1 T.f_is_pattern T.fd_is_pattern ["word", "pattern"] (sp_is_pattern T) := by
  skip
  refine T.F_is_pattern.ok sc_is_pattern (fun vs H Q E h => sp_is_pattern_len h) (fun cdv A outer s H vs Q E hr h => ?_)
  obtain ⟨z, n, rfl, hn, h64, hc, k⟩ := h
  refine ⟨_, (pss_cons (ps_if (PW.pt (pw_or (pt_not (pt_val (pe_callB call_isTy (by rfl) T.n_isinstance (by decide +kernel) (pa_cons (pv 1) (pa_cons (pe_bltn (v := .ty "str") (by rfl) T.n_str (by decide +kernel) rfl) pa_nil))))) (pw_or1 (pt_cmpR op_ne (pe_callB call_len_str (by rfl) T.n_len (by decide +kernel) (pa_cons (pv 1) pa_nil)) (pv 0) (nomark _)))))
        (pss_one (ps_ret pe_bl))
        pss_nil)
       (pss_one (ps_ret (pe_callB (cr_all rfl) (by rfl) T.n_all (by decide +kernel) (pa_cons (pe_lc (own := [("sign", 2)]) rfl sc_is_pattern.nd (pi_str (pv 1)) (blkOk_by (N := ["word", "pattern", "sign"]) (sc := defScope s_is_pattern) (by decide +kernel)) (fun _ _ _ _ _ => by (apply pg_tr; exact pg_name (i := 2) sc_is_pattern.nd rfl (Or.inl rfl); (try dsimp only [Cx.blk]) <;> exact rfl)) (fun _ _ _ _ _ => by (apply pts_tr; exact pts_nil; (try dsimp only [Cx.blk]) <;> exact rfl)) (fun _ _ _ _ _ => by (apply pe_tr; exact (pe_cmpR op_in_sign (pv 2) pe_str (by rfl)); (try dsimp only [Cx.blk]) <;> exact rfl))) pa_nil))))), ?_⟩
  have sz : sizeLine = 16777216 := sizeLine_eq
  refine ⟨_, rfl, _, _, _, rfl, ty4 (by rfl), _, k_4s (by rfl), _, rfl, iteN (fun q => by cases q) ?_⟩
  have hz : z.length ≤ sizeLine := by omega
  have d1 : ¬ (!decide (V.int (z.length : Nat) = V.int (n : Nat))) = true := by rw [hn]; simp
  walk_at "p"
  intro D hD
  refine lc_it walk_str (fun i H1 => Same H H1 ∧ H1 D = some (.lst ((List.replicate i true).map V.bl))) ⟨same_new hD, upd_same⟩ (fun _ _ _ _ => trivial) ?_ ?_
  · rintro i x H1 H2 hi ⟨s1, h1⟩ ⟨rfl, c, hc', rfl⟩
    have hm : c ∈ z.cps.toList := by
      rw [← Array.getElem?_toList] at hc'
      exact List.mem_of_getElem? hc'
    refine ⟨rfl, _, rfl, c, _, rfl, rfl, _, h1, by rw [List.length_map, List.length_replicate]; have : z.cps.size = z.length := rfl; omega, fun b o e => ?_, ?_⟩
    · have bD : b ≠ D := fun z => by rw [z, hD] at e; cases e
      rw [upd_ne bD]; exact s1 _ _ e
    · rw [upd_same, inOk, hc c hm, rep_snoc]
  · rintro H1 ⟨s1, h1⟩
    refine ⟨D, _, rfl, SqL.of h1, ?_⟩
    rw [all_rep]
    exact k _ s1
def sp_are_patterns (_ : Txt K mg) : Sp := fun vs H Q _ => ∃ (a : Addr) (ps : List Str) (n r : Nat), vs = [.int (n : Nat), .int (r : Nat), .ref a] ∧ Row H a (ps.map V.str) ∧ n ≤ 64 ∧ PatsOk n r ps ∧ ∀ H', Same H H' → Q (.bl true) H'
theorem sp_are_patterns_len {T : Txt K mg} {vs H Q E} (h : sp_are_patterns T vs H Q E) : vs.length = 3 := by obtain ⟨_, _, _, _, rfl, _⟩ := h; rfl
theorem ok_are_patterns (T : Txt K mg) : FnOk P w K mg base CX0 2 T.f_are_patterns T.fd_are_patterns ["word", "registers", "patterns"] (sp_are_patterns T) := by
  have G_is_pattern := ok_is_pattern (P := P) (w := w) (base := base) T; have G_is_row := ok_is_row (P := P) (w := w) (base := base) T; have G_letters_of := ok_letters_of (P := P) (w := w) (base := base) T
  refine T.F_are_patterns.ok sc_are_patterns (fun vs H Q E h => sp_are_patterns_len h) (fun cdv A outer s H vs Q E hr h => ?_)
  obtain ⟨a, ps, n, r, rfl, ha, h64, hp, k⟩ := h
  refine ⟨_, (pss_cons (ps_if (PW.pt (pw_or (pt_not (pt_val (pe_call G_is_row hr rfl T.g_is_row T.F_is_row.kp T.b_is_row .nil pass0 (pa_cons (pv 2) pa_nil)))) (pw_or1 (pt_not (pt_chain op_le op_le pe_int (pe_callB call_len_seq (by rfl) T.n_len (by decide +kernel) (pa_cons (pv 2) pa_nil)) (pe_glob (v := .int 3) rfl T.c_MOST_PATTERNS ⟨_, rfl⟩))))))
        (pss_one (ps_ret pe_bl))
        pss_nil)
       (pss_cons (ps_if (pt_not (pt_val (pe_callB (cr_all rfl) (by rfl) T.n_all (by decide +kernel) (pa_cons (pe_lc (own := [("pattern", 5)]) rfl sc_are_patterns.nd (pi_seq (i := 2) rfl (Or.inl rfl)) (blkOk_by (N := ["word", "registers", "patterns", "letter", "bits", "pattern"]) (sc := defScope s_are_patterns) (by decide +kernel)) (fun _ _ _ _ _ => by (apply pg_tr; exact pg_name (i := 5) sc_are_patterns.nd rfl (Or.inl rfl); (try dsimp only [Cx.blk]) <;> exact rfl)) (fun _ _ _ _ _ => by (apply pts_tr; exact pts_nil; (try dsimp only [Cx.blk]) <;> exact rfl)) (fun _ _ _ _ _ => by (apply pe_tr; exact (pe_call G_is_pattern hr rfl T.g_is_pattern T.F_is_pattern.kp T.b_is_pattern .nil pass0 (pa_cons (pv 0) (pa_cons (pv 5) pa_nil))); (try dsimp only [Cx.blk]) <;> exact rfl))) pa_nil))))
        (pss_one (ps_ret pe_bl))
        pss_nil)
       (pss_cons (ps_for PassesOwn.never rfl (pi_tup (pe_call G_letters_of hr rfl T.g_letters_of T.F_letters_of.kp T.b_letters_of .nil pass0 (pa_cons (pv 2) pa_nil))) (pg_tup (n := 2) rfl (pgs_cons (pg_name (i := 3) sc_are_patterns.nd rfl (Or.inl rfl)) (pgs_cons (pg_name (i := 4) sc_are_patterns.nd rfl (Or.inl rfl)) pgs_nil)))
        (pss_cons (ps_if (PW.pt (pw_and (pt_cmpR op_in_sign (pv 3) (pe_glob (v := .str "abc") rfl T.c_REGISTER_LETTERS ⟨_, rfl⟩) (by rfl)) (pw_and1 (pt_cmpR op_gt (pe_op op_shl pe_int (pv 4)) (pv 1) (nomark _)))))
        (pss_one (ps_ret pe_bl))
        pss_nil)
       (pss_one (ps_if (pt_cmpR op_gt (pv 4) (pv 0) (nomark _))
        (pss_one (ps_ret pe_bl))
        pss_nil))))
       (pss_one (ps_ret pe_bl))))), ?_⟩
  have sz : sizeLine = 16777216 := sizeLine_eq
  have hl3 := hp.l3
  have hl1 := hp.l1
  have d1 : decide ((1 : Int) ≤ ((ps.map V.str).length : Nat)) = true := dT (by rw [List.length_map]; omega)
  have d2 : decide ((((ps.map V.str).length : Nat) : Int) ≤ 3) = true := dT (by rw [List.length_map]; omega)
  refine ⟨_, rfl, .inl ⟨a, _, rfl, ha, fun H1 s1 => ?_⟩⟩
  have ha1 := ha.news s1
  have ha1' : SqL K H1 a (ps.map V.str) ∨ SqT K H1 a (ps.map V.str) := ha1.elim (fun z => .inl (SqL.of z)) fun z => .inr (SqT.of z)
  refine ⟨_, rfl, iteN (fun q => by cases q) ?_⟩
  have d3 := nF d2
  refine ⟨_, rfl, a, _, rfl, ha1', _, _, rfl, rfl, _, rfl, iteP d1 ⟨_, _, rfl, rfl, _, rfl, iteN d3 ?_⟩⟩
  refine ⟨a, _, rfl, ha1, fun J G wk hG D hD => ?_⟩
  refine lc_it wk (fun i H2 => Same H1 H2 ∧ H2 D = some (.lst ((List.replicate i true).map V.bl))) ⟨same_new hD, upd_same⟩ (fun i H2 _ ⟨s2, _⟩ => hG _ (ha1.eq s2)) ?_ ?_
  · rintro i x H2 H3 hi ⟨s2, h2⟩ ⟨rfl, hx⟩
    rw [List.getElem?_map] at hx
    obtain ⟨z, hz, rfl⟩ : ∃ z, ps[i]? = some z ∧ x = V.str z := by
      cases h : ps[i]? with
      | none => rw [h] at hx; cases hx
      | some z => rw [h] at hx; exact ⟨z, rfl, (Option.some.inj hx).symm⟩
    obtain ⟨z1, z2⟩ := hp.pat z (List.mem_of_getElem? hz)
    have hi3 : i < ps.length := (List.getElem?_eq_some_iff.mp hz).1
    refine ⟨rfl, _, rfl, _, rfl, z, n, rfl, z1, h64, z2, fun H4 s4 => ⟨_, s4 _ _ h2, by rw [List.length_map, List.length_replicate]; omega, fun b o e => ?_, ?_⟩⟩
    · have bD : b ≠ D := fun z => by rw [z, hD] at e; cases e
      rw [upd_ne bD]; exact s4 _ _ (s2 _ _ e)
    · rw [upd_same, rep_snoc]
  rintro H2 ⟨s2, h2⟩
  refine ⟨D, _, rfl, SqL.of h2, ?_⟩
  rw [all_rep]
  refine ⟨_, rfl, iteN (nF rfl) ?_⟩
  have ha2 := ha1.news s2
  refine ⟨_, rfl, a, ps, rfl, ha2, ?_, fun H3 t s3 t0 hL => ?_⟩
  · rw [lens_le fun z hz => (hp.pat z hz).1]
    have := Nat.mul_le_mul hl3 h64
    omega
  obtain ⟨ts, hts, hR⟩ := hL
  refine ⟨t, rfl, ⟨_, SqT.of hts⟩, ?_⟩
  refine for_it (walk_tup (xs := ts)) (fun i σ H4 => H4 = H3 ∧ ∃ v3 v4 v5 : Option V, σ = [some (.int (n : Nat)), some (.int (r : Nat)), some (.ref a), v3, v4, v5]) ⟨rfl, _, _, _, rfl⟩ (fun i σ H4 _ ⟨e, _⟩ => by rw [e]; exact SqT.of hts) ?_ ?_
  · rintro i x σ H4 H5 hi ⟨rfl, v3, v4, v5, rfl⟩ ⟨rfl, hx⟩
    obtain ⟨u, q, hq, hu, hr⟩ := hR.at (i := i) (by rw [← hR.1]; exact hi)
    rw [hu] at hx
    cases hx
    obtain ⟨b1, b2⟩ := hp.bits q (List.mem_of_getElem? hq)
    refine ⟨u, _, rfl, SqT.of hr, rfl, _, _, rfl, _, _, rfl, rfl, ?_⟩
    refine ⟨_, rfl, q.1, _, rfl, rfl, _, rfl, ?_⟩
    rw [inReg]
    have d5 : ¬ decide (((n : Nat) : Int) < (q.2 : Nat)) = true := dF (by omega)
    refine iteB (fun c => ?_) fun c => ?_
    · have b3 := b2 c
      refine ⟨_, rfl, _, _, rfl, rfl, cpow1 (by omega) (by omega), _, rfl, _, _, rfl, rfl, _, rfl, iteN (dF ?_) ?_⟩
      · rw [Int.one_mul, Int.toNat_natCast]
        have : ((2 ^ q.2 : Nat) : Int) ≤ (r : Nat) := by exact_mod_cast b3
        have e : ((2 ^ q.2 : Nat) : Int) = 2 ^ q.2 := by simp
        omega
      · refine ⟨_, rfl, _, rfl, _, _, rfl, rfl, _, rfl, iteN d5 ?_⟩
        exact ⟨rfl, _, _, _, rfl⟩
    · refine iteN (by decide) ?_
      refine ⟨_, rfl, _, rfl, _, _, rfl, rfl, _, rfl, iteN d5 ?_⟩
      exact ⟨rfl, _, _, _, rfl⟩
  · rintro σ H4 ⟨rfl, v3, v4, v5, rfl⟩
    exact k _ ((s1.trans s2).trans s3)
def sp_first_of (_ : Txt K mg) : Sp := fun vs H Q _ => ∃ (a b : Addr), vs = [.ref a, .ref b] ∧ Row H a [] ∧ ∀ H', Same H H' → Q .non H'
theorem sp_first_of_len {T : Txt K mg} {vs H Q E} (h : sp_first_of T vs H Q E) : vs.length = 2 := by obtain ⟨_, _, rfl, _⟩ := h; rfl
theorem ok_first_of (T : Txt K mg) : FnOk P w K mg base CX0 1 T.f_first_of T.fd_first_of ["lines", "names"] (sp_first_of T) := by
  skip
  refine T.F_first_of.ok sc_first_of (fun vs H Q E h => sp_first_of_len h) (fun cdv A outer s H vs Q E hr h => ?_)
  obtain ⟨a, b, rfl, ha, k⟩ := h
  refine ⟨_, (pss_cons (ps_for PassesOwn.never rfl (pi_enS (by rfl) T.n_enumerate (pa_cons (pv 0) pa_nil)) (pg_tup (n := 2) rfl (pgs_cons (pg_name (i := 2) sc_first_of.nd rfl (Or.inl rfl)) (pgs_cons (pg_name (i := 3) sc_first_of.nd rfl (Or.inl rfl)) pgs_nil)))
        (pss_one ps_never))
       (pss_one (ps_ret pe_non))), ?_⟩
  refine ⟨_, rfl, a, _, rfl, ha, fun J G wk hG => ?_⟩
  refine for_it wk (fun _ _ H1 => H1 = H) rfl (fun i σ H1 _ e => hG _ (by rw [e])) (fun i x σ H1 H2 hi => absurd hi (Nat.not_lt_zero _)) ?_
  rintro σ H1 rfl
  exact k _ (Same.refl _)
def sp_first_wrong (_ : Txt K mg) : Sp := fun vs H Q _ => ∃ (a b : Addr), vs = [.ref a, .ref b] ∧ Row H b [] ∧ ∀ H', Same H H' → Q .non H'
theorem sp_first_wrong_len {T : Txt K mg} {vs H Q E} (h : sp_first_wrong T vs H Q E) : vs.length = 2 := by obtain ⟨_, _, rfl, _⟩ := h; rfl
theorem ok_first_wrong (T : Txt K mg) : FnOk P w K mg base CX0 1 T.f_first_wrong T.fd_first_wrong ["grammar", "lines"] (sp_first_wrong T) := by
  skip
  refine T.F_first_wrong.ok sc_first_wrong (fun vs H Q E h => sp_first_wrong_len h) (fun cdv A outer s H vs Q E hr h => ?_)
  obtain ⟨a, b, rfl, hb, k⟩ := h
  refine ⟨_, (pss_cons (ps_set (i := 2) sc_first_wrong.nd rfl (Or.inl rfl) (pe_lst pa_nil))
       (pss_cons (ps_set (i := 3) sc_first_wrong.nd rfl (Or.inl rfl) pe_int)
       (pss_cons (ps_set (i := 4) sc_first_wrong.nd rfl (Or.inl rfl) pe_int)
       (pss_cons (ps_for PassesOwn.never rfl (pi_enS (by rfl) T.n_enumerate (pa_cons (pv 1) pa_nil)) (pg_tup (n := 2) rfl (pgs_cons (pg_name (i := 5) sc_first_wrong.nd rfl (Or.inl rfl)) (pgs_cons (pg_name (i := 6) sc_first_wrong.nd rfl (Or.inl rfl)) pgs_nil)))
        (pss_cons ps_never (pss_cons ps_never (pss_cons ps_never (pss_cons ps_never (pss_one ps_never))))))
       (pss_one (ps_ret pe_non)))))), ?_⟩
  refine ⟨Nat.zero_le _, fun l hl => ?_⟩
  have s1 := same_new (o := .lst []) hl
  refine ⟨_, rfl, b, _, rfl, hb.news s1, fun J G wk hG => ?_⟩
  refine for_it wk (fun _ _ H1 => H1 = upd H l (.lst [])) rfl (fun i σ H1 _ e => hG _ (by rw [e])) (fun i x σ H1 H2 hi => absurd hi (Nat.not_lt_zero _)) ?_
  rintro σ H1 rfl
  exact k _ s1
/-- what a line's entry may be -/
def entOk (x : V) : Prop := (∃ i : Nat, x = .int (i : Nat) ∧ i ≤ 8) ∨ ∃ z : Str, x = .str z ∧ z.length ≤ 20
def sp_written_line (_ : Txt K mg) : Sp := fun vs H Q _ => ∃ (a : Addr) (es : List V), vs = [.ref a] ∧ H a = some (.tup es) ∧ (∀ e ∈ es, entOk e) ∧ es.length ≤ 20 ∧ ∀ (H' : Hp) (z : Str), Same H H' → z.length ≤ 1000 → Q (.str z) H'
theorem sp_written_line_len {T : Txt K mg} {vs H Q E} (h : sp_written_line T vs H Q E) : vs.length = 1 := by obtain ⟨_, _, rfl, _⟩ := h; rfl
theorem ok_written_line (T : Txt K mg) : FnOk P w K mg base CX0 1 T.f_written_line T.fd_written_line ["entries"] (sp_written_line T) := by
  skip
  refine T.F_written_line.ok sc_written_line (fun vs H Q E h => sp_written_line_len h) (fun cdv A outer s H vs Q E hr h => ?_)
  obtain ⟨a, es, rfl, ha, he, hl, k⟩ := h
  refine ⟨_, (pss_one (ps_ret (pe_op op_add_str (pe_join pe_str (pe_lc (own := [("entry", 1)]) rfl sc_written_line.nd (pi_tup (pv 0)) (blkOk_by (N := ["entries", "entry"]) (sc := defScope s_written_line) (by decide +kernel)) (fun _ _ _ _ _ => by (apply pg_tr; exact pg_name (i := 1) sc_written_line.nd rfl (Or.inl rfl); (try dsimp only [Cx.blk]) <;> exact rfl)) (fun _ _ _ _ _ => by (apply pts_tr; exact pts_nil; (try dsimp only [Cx.blk]) <;> exact rfl)) (fun _ _ _ _ _ => by (apply pe_tr; exact (pe_callTy call_strA (by rfl) T.n_str (by decide +kernel) (pa_cons (pv 1) pa_nil)); (try dsimp only [Cx.blk]) <;> exact rfl)))) pe_str))), ?_⟩
  have sz : sizeLine = 16777216 := sizeLine_eq
  have e1 : (" " : Str).length = 1 := by decide
  have e2 : ("\n" : Str).length = 1 := by decide
  refine ⟨⟨_, rfl⟩, _, rfl, a, rfl, ⟨_, SqT.of ha⟩, fun D hD => ?_⟩
  refine lc_it (walk_tup (xs := es)) (fun i H1 => ∃ ys : List Str, Same H H1 ∧ H1 D = some (.lst (ys.map V.str)) ∧ ys.length = i ∧ ∀ y ∈ ys, y.length ≤ 20) ⟨[], same_new hD, upd_same, rfl, by simp⟩ (fun i H1 _ ⟨_, s1, _⟩ => SqT.of (s1 _ _ ha)) ?_ ?_
  · rintro i x H1 H2 hi ⟨ys, s1, h1, l1, b1⟩ ⟨rfl, hx⟩
    have go : ∀ z : Str, z.length ≤ 20 → ∃ acc, H2 D = some (.lst acc) ∧ acc.length < sizeLine ∧ ∃ ys : List Str, Same H (upd H2 D (.lst (acc ++ [.str z]))) ∧ upd H2 D (.lst (acc ++ [.str z])) D = some (.lst (ys.map V.str)) ∧ ys.length = i + 1 ∧ ∀ y ∈ ys, y.length ≤ 20 := fun z hz => by
      refine ⟨_, h1, by rw [List.length_map]; omega, ys ++ [z], fun b o e => ?_, by rw [upd_same, List.map_append]; rfl, by simp [l1], fun y hy => ?_⟩
      · have bD : b ≠ D := fun z => by rw [z, hD] at e; cases e
        rw [upd_ne bD]; exact s1 _ _ e
      · rcases List.mem_append.mp hy with hy | hy
        · exact b1 y hy
        · rw [List.mem_singleton.mp hy]; exact hz
    rcases he x (List.mem_of_getElem? hx) with ⟨j, rfl, hj⟩ | ⟨z, rfl, hz⟩
    · obtain ⟨q1, q2⟩ := small_str j hj
      exact ⟨rfl, _, rfl, .inl ⟨_, rfl, q2, go _ (Nat.le_trans q1 (by decide))⟩⟩
    · exact ⟨rfl, _, rfl, .inr ⟨_, rfl, go z hz⟩⟩
  rintro H1 ⟨ys, s1, h1, l1, b1⟩
  have sum : (ys.map (·.length)).sum ≤ ys.length * 20 := by
    clear h1 l1 
    induction ys with
    | nil => simp
    | cons y r ih =>
      have := ih fun z hz => b1 z (by simp [hz])
      have := b1 y (by simp)
      rw [List.map_cons, List.sum_cons, List.length_cons, Nat.succ_mul]; omega
  have jl : (Txt.join (" " : Str) ys).length ≤ (ys.map (·.length)).sum + ys.length * 1 := by
    have := StrLaws.join_length_le (" " : Str) ys
    rw [e1] at this
    have e : Txt.join (" " : Str) ys = Str.join " " ys := StrLaws.glued_eq_join _ _
    rw [e]; exact this
  refine ⟨_, D, ys, rfl, rfl, .inl (SqL.of h1), by rw [e1]; omega, _, _, rfl, rfl, by rw [e2]; omega, ?_⟩
  refine k _ _ s1 ?_
  show (Txt.join (" " : Str) ys ++ ("\n" : Str)).length ≤ 1000
  have : (Txt.join (" " : Str) ys ++ ("\n" : Str)).length = (Txt.join (" " : Str) ys).length + ("\n" : Str).length := by
    show ((Txt.join (" " : Str) ys).cps ++ ("\n" : Str).cps).size = _
    rw [Array.size_append]; rfl
  rw [this, e2]; omega
def sp_Form_init (T : Txt K mg) : Sp := fun vs H Q _ => ∃ (p dx pt ln : Addr) (f : FM), vs = [.ref p, .str f.nm, .ref pt, .ref ln] ∧ H p = some (.ins T.C_Form dx []) ∧ H pt = some (.tup (f.ps.map V.str)) ∧ H ln = some (.tup []) ∧ lens f.ps ≤ 1000 ∧ (∀ z ∈ f.ps, z.length ≤ 64) ∧ f.ps.length ≤ 3 ∧
  ∀ H', (∀ b o, H b = some o → b ≠ p → H' b = some o) → FormAt T.C_Form H' p f → Q .non H'
theorem sp_Form_init_len {T : Txt K mg} {vs H Q E} (h : sp_Form_init T vs H Q E) : vs.length = 4 := by obtain ⟨_, _, _, _, _, rfl, _⟩ := h; rfl
theorem ok_Form_init (T : Txt K mg) : FnOk P w K mg base CX0 2 T.f_Form_init T.fd_Form_init ["self", "name", "patterns", "lines"] (sp_Form_init T) := by
  have G_first_of := ok_first_of (P := P) (w := w) (base := base) T; have G_fixed_bits := ok_fixed_bits (P := P) (w := w) (base := base) T; have G_letters_of := ok_letters_of (P := P) (w := w) (base := base) T
  refine T.F_Form_init.ok sc_Form_init (fun vs H Q E h => sp_Form_init_len h) (fun cdv A outer s H vs Q E hr h => ?_)
  obtain ⟨p, dx, pt, ln, f, rfl, hp, hpt, hln, hl, h64, h3, k⟩ := h
  refine ⟨_, (pss_cons (ps_fld (pv 0) (pv 1) rfl)
       (pss_cons (ps_fld (pv 0) (pv 2) rfl)
       (pss_cons (ps_fld (pv 0) (pv 3) rfl)
       (pss_cons (ps_fld (pv 0) (pe_callB call_lenT (by rfl) T.n_len (by decide +kernel) (pa_cons (pv 2) pa_nil)) rfl)
       (pss_cons (ps_fld (pv 0) (pe_call G_letters_of hr rfl T.g_letters_of T.F_letters_of.kp T.b_letters_of .nil pass0 (pa_cons (pv 2) pa_nil)) rfl)
       (pss_cons (ps_fld (pv 0) (pe_call G_first_of hr rfl T.g_first_of T.F_first_of.kp T.b_first_of .nil pass0 (pa_cons (pv 3) (pa_cons (pe_glob (v := .ref T.a_EFFECTS) rfl T.c_EFFECTS rfl) pa_nil))) rfl)
       (pss_cons (ps_fld (pv 0) (pe_call G_first_of hr rfl T.g_first_of T.F_first_of.kp T.b_first_of .nil pass0 (pa_cons (pv 3) (pa_cons (pe_tup (pa_cons pe_str pa_nil)) pa_nil))) rfl)
       (pss_one (ps_fld (pv 0) (pe_callTy call_tupleL (by rfl) T.n_tuple (by decide +kernel) (pa_cons (pe_lc (own := [("pattern", 4)]) rfl sc_Form_init.nd (pi_tup (pv 2)) (blkOk_by (N := ["self", "name", "patterns", "lines", "pattern"]) (sc := defScope s_Form_init) (by decide +kernel)) (fun _ _ _ _ _ => by (apply pg_tr; exact pg_name (i := 4) sc_Form_init.nd rfl (Or.inl rfl); (try dsimp only [Cx.blk]) <;> exact rfl)) (fun _ _ _ _ _ => by (apply pts_tr; exact pts_nil; (try dsimp only [Cx.blk]) <;> exact rfl)) (fun _ _ _ _ _ => by (apply pe_tr; exact (pe_call G_fixed_bits hr rfl T.g_fixed_bits T.F_fixed_bits.kp T.b_fixed_bits .nil pass0 (pa_cons (pv 4) pa_nil)); (try dsimp only [Cx.blk]) <;> exact rfl))) pa_nil)) rfl))))))))), ?_⟩
  have ppt : p ≠ pt := ne_of hp hpt (by intro z; cases z)
  have pln : p ≠ ln := ne_of hp hln (by intro z; cases z)
  refine ⟨_, rfl, _, rfl, p, T.C_Form, dx, _, rfl, hp, T.cl_Form, T.nA_Form_name, by decide, ?_⟩
  rw [put_form_0]
  refine ⟨_, rfl, _, rfl, p, T.C_Form, dx, _, rfl, upd_same, T.cl_Form, T.nA_Form_patterns, by show 1 < 1000; decide, ?_⟩
  rw [put_form_1]
  refine ⟨_, rfl, _, rfl, p, T.C_Form, dx, _, rfl, upd_same, T.cl_Form, T.nA_Form_lines, by show 2 < 1000; decide, ?_⟩
  rw [put_form_2]
  have kp3 : ∀ b o, H b = some o → b ≠ p → upd (upd (upd H p (.ins T.C_Form dx [("name", .str f.nm)])) p (.ins T.C_Form dx [("name", .str f.nm), ("patterns", .ref pt)])) p (.ins T.C_Form dx [("name", .str f.nm), ("patterns", .ref pt), ("lines", .ref ln)]) b = some o := fun b o e hb => by rw [upd_ne hb, upd_ne hb, upd_ne hb]; exact e
  generalize hH3 : upd (upd (upd H p (.ins T.C_Form dx [("name", .str f.nm)])) p (.ins T.C_Form dx [("name", .str f.nm), ("patterns", .ref pt)])) p (.ins T.C_Form dx [("name", .str f.nm), ("patterns", .ref pt), ("lines", .ref ln)]) = H3 at kp3 ⊢
  have hp3 : H3 p = some (.ins T.C_Form dx [("name", .str f.nm), ("patterns", .ref pt), ("lines", .ref ln)]) := by rw [← hH3]; exact upd_same
  have hpt3 := kp3 _ _ hpt ppt.symm
  have hln3 := kp3 _ _ hln pln.symm
  refine ⟨_, rfl, pt, _, rfl, SqT.of hpt3, _, rfl, p, T.C_Form, dx, _, rfl, hp3, T.cl_Form, T.nA_Form_size, by show 3 < 1000; decide, ?_⟩
  rw [put_form_3]
  have kp4 : ∀ b o, H b = some o → b ≠ p → upd H3 p (.ins T.C_Form dx [("name", .str f.nm), ("patterns", .ref pt), ("lines", .ref ln), ("size", .int ((f.ps.map V.str).length : Nat))]) b = some o := fun b o e hb => by rw [upd_ne hb]; exact kp3 _ _ e hb
  generalize hH4 : upd H3 p (.ins T.C_Form dx [("name", .str f.nm), ("patterns", .ref pt), ("lines", .ref ln), ("size", .int ((f.ps.map V.str).length : Nat))]) = H4 at kp4 ⊢
  have hp4 : H4 p = some (.ins T.C_Form dx [("name", .str f.nm), ("patterns", .ref pt), ("lines", .ref ln), ("size", .int ((f.ps.map V.str).length : Nat))]) := by rw [← hH4]; exact upd_same
  refine ⟨_, rfl, pt, f.ps, rfl, .inr (kp4 _ _ hpt ppt.symm), hl, fun H5 lt s5 lt0 hL => ?_⟩
  refine ⟨_, rfl, p, T.C_Form, dx, _, rfl, s5 _ _ hp4, T.cl_Form, T.nA_Form_letters, by show 4 < 1000; decide, ?_⟩
  rw [put_form_4]
  have plt : p ≠ lt := ne_of_none hp4 lt0
  have kp6 : ∀ b o, H5 b = some o → b ≠ p → upd H5 p (.ins T.C_Form dx [("name", .str f.nm), ("patterns", .ref pt), ("lines", .ref ln), ("size", .int ((f.ps.map V.str).length : Nat)), ("letters", .ref lt)]) b = some o := fun b o e hb => by rw [upd_ne hb]; exact e
  generalize hH6 : upd H5 p (.ins T.C_Form dx [("name", .str f.nm), ("patterns", .ref pt), ("lines", .ref ln), ("size", .int ((f.ps.map V.str).length : Nat)), ("letters", .ref lt)]) = H6 at kp6 ⊢
  have hp6 : H6 p = some (.ins T.C_Form dx [("name", .str f.nm), ("patterns", .ref pt), ("lines", .ref ln), ("size", .int ((f.ps.map V.str).length : Nat)), ("letters", .ref lt)]) := by rw [← hH6]; exact upd_same
  have k6 : ∀ b o, H b = some o → b ≠ p → H6 b = some o := fun b o e hb => kp6 _ _ (s5 _ _ (kp4 _ _ e hb)) hb
  refine ⟨_, rfl, ln, _, rfl, .inr (k6 _ _ hln pln.symm), fun H7 s7 => ?_⟩
  refine ⟨_, rfl, p, T.C_Form, dx, _, rfl, s7 _ _ hp6, T.cl_Form, T.nA_Form_effect, by show 5 < 1000; decide, ?_⟩
  rw [put_form_5]
  have kp8 : ∀ b o, H7 b = some o → b ≠ p → upd H7 p (.ins T.C_Form dx [("name", .str f.nm), ("patterns", .ref pt), ("lines", .ref ln), ("size", .int ((f.ps.map V.str).length : Nat)), ("letters", .ref lt), ("effect", .non)]) b = some o := fun b o e hb => by rw [upd_ne hb]; exact e
  generalize hH8 : upd H7 p (.ins T.C_Form dx [("name", .str f.nm), ("patterns", .ref pt), ("lines", .ref ln), ("size", .int ((f.ps.map V.str).length : Nat)), ("letters", .ref lt), ("effect", .non)]) = H8 at kp8 ⊢
  have hp8 : H8 p = some (.ins T.C_Form dx [("name", .str f.nm), ("patterns", .ref pt), ("lines", .ref ln), ("size", .int ((f.ps.map V.str).length : Nat)), ("letters", .ref lt), ("effect", .non)]) := by rw [← hH8]; exact upd_same
  have k8 : ∀ b o, H b = some o → b ≠ p → H8 b = some o := fun b o e hb => kp8 _ _ (s7 _ _ (k6 _ _ e hb)) hb
  refine ⟨_, rfl, by show 1 ≤ sizeLine; decide, fun g hg => ?_⟩
  have s8 := same_new (o := .tup [.str "goto"]) hg
  refine ⟨ln, g, rfl, .inr (s8 _ _ (k8 _ _ hln pln.symm)), fun H9 s9 => ?_⟩
  have hp9 := s9 _ _ (s8 _ _ hp8)
  refine ⟨_, rfl, p, T.C_Form, dx, _, rfl, hp9, T.cl_Form, T.nA_Form_goto, by show 6 < 1000; decide, ?_⟩
  rw [put_form_6]
  have kp10 : ∀ b o, H9 b = some o → b ≠ p → upd H9 p (.ins T.C_Form dx [("name", .str f.nm), ("patterns", .ref pt), ("lines", .ref ln), ("size", .int ((f.ps.map V.str).length : Nat)), ("letters", .ref lt), ("effect", .non), ("goto", .non)]) b = some o := fun b o e hb => by rw [upd_ne hb]; exact e
  generalize hH10 : upd H9 p (.ins T.C_Form dx [("name", .str f.nm), ("patterns", .ref pt), ("lines", .ref ln), ("size", .int ((f.ps.map V.str).length : Nat)), ("letters", .ref lt), ("effect", .non), ("goto", .non)]) = H10 at kp10 ⊢
  have hp10 : H10 p = some (.ins T.C_Form dx [("name", .str f.nm), ("patterns", .ref pt), ("lines", .ref ln), ("size", .int ((f.ps.map V.str).length : Nat)), ("letters", .ref lt), ("effect", .non), ("goto", .non)]) := by rw [← hH10]; exact upd_same
  have k10 : ∀ b o, H b = some o → b ≠ p → H10 b = some o := fun b o e hb => kp10 _ _ (s9 _ _ (s8 _ _ (k8 _ _ e hb))) hb
  have hpt10 := k10 _ _ hpt ppt.symm
  refine ⟨_, rfl, pt, rfl, ⟨_, SqT.of hpt10⟩, fun D hD => ?_⟩
  refine lc_it (walk_tup (xs := f.ps.map V.str)) (fun i H1 => ∃ ts, Same H10 H1 ∧ H1 D = some (.lst ts) ∧ Refs H1 ts (f.ps.take i) FixA) ⟨[], same_new hD, upd_same, Refs.nil⟩ (fun i H1 _ ⟨_, s1, _⟩ => SqT.of (s1 _ _ hpt10)) ?_ ?_
  · rintro i x H1 H2 hi ⟨ts, s1, h1, r1⟩ ⟨rfl, hx⟩
    rw [List.getElem?_map] at hx
    obtain ⟨z, hz, rfl⟩ : ∃ z, f.ps[i]? = some z ∧ x = V.str z := by
      cases h : f.ps[i]? with
      | none => rw [h] at hx; cases hx
      | some z => rw [h] at hx; exact ⟨z, rfl, (Option.some.inj hx).symm⟩
    have sz : sizeLine = 16777216 := sizeLine_eq
    refine ⟨rfl, _, rfl, z, rfl, h64 z (List.mem_of_getElem? hz), fun H3 t s3 t0 ht => ⟨ts, s3 _ _ h1, ?_, ts ++ [.ref t], fun b o e => ?_, upd_same, ?_⟩⟩
    · rw [r1.1, List.length_take]; omega
    · have bD : b ≠ D := fun z => by rw [z, hD] at e; cases e
      rw [upd_ne bD]; exact s3 _ _ (s1 _ _ e)
    · have tD : t ≠ D := fun q => by rw [q, h1] at t0; cases t0
      rw [List.take_succ, hz]
      refine Refs.snoc (r1.map fun u q _ r => ?_) ?_
      · have uD : u ≠ D := ne_of r h1 (by intro z; cases z)
        show upd _ D _ u = _
        rw [upd_ne uD]; exact s3 _ _ r
      · show upd _ D _ t = _
        rw [upd_ne tD]; exact ht
  rintro H11 ⟨ts, s11, h11, r11⟩
  refine ⟨D, ts, rfl, SqL.of h11, fun fx hfx => ?_⟩
  have s12 := same_new (o := .tup ts) hfx
  have hp12 := s12 _ _ (s11 _ _ hp10)
  refine ⟨_, rfl, p, T.C_Form, dx, _, rfl, hp12, T.cl_Form, T.nA_Form_fixed, by show 7 < 1000; decide, ?_⟩
  rw [put_form_7]
  have pfx : p ≠ fx := ne_of_none (s11 _ _ hp10) hfx
  have kL : ∀ b o, H5 b = some o → b ≠ p → H10 b = some o := fun b o e hb => kp10 _ _ (s9 _ _ (s8 _ _ (kp8 _ _ (s7 _ _ (kp6 _ _ e hb)) hb))) hb
  refine k _ (fun b o e hb => ?_) ⟨dx, pt, ln, lt, fx, ?_, ?_, ?_, ?_, ?_⟩
  · rw [upd_ne hb]; exact s12 _ _ (s11 _ _ (k10 _ _ e hb))
  · rw [upd_same, List.length_map]; rfl
  · rw [upd_ne ppt.symm]; exact s12 _ _ (s11 _ _ hpt10)
  · rw [upd_ne pln.symm]; exact s12 _ _ (s11 _ _ (k10 _ _ hln pln.symm))
  · obtain ⟨us, u1, u2⟩ := hL
    refine ⟨us, by rw [upd_ne plt.symm]; exact s12 _ _ (s11 _ _ (kL _ _ u1 plt.symm)), u2.map fun u q _ r => ?_⟩
    have up : u ≠ p := ne_of r (s5 _ _ hp4) (by intro z; cases z)
    show upd _ p _ u = _
    rw [upd_ne up]; exact s12 _ _ (s11 _ _ (kL _ _ r up))
  · refine ⟨ts, by rw [upd_ne pfx.symm]; exact upd_same, ?_⟩
    rw [List.length_map, List.take_length] at r11
    refine r11.map fun u q _ r => ?_
    have up : u ≠ p := ne_of r (s11 _ _ hp10) (by intro z; cases z)
    show upd _ p _ u = _
    rw [upd_ne up]; exact s12 _ _ r
end
end My

/-! E -/
namespace My
open PySem L2
local macro_rules | `(tactic| walk_at "side") => `(tactic| first | with_reducible rfl | assumption | rfl | decide | omega | exact cpow1 (by omega) (by omega) | exact cdiv (by omega) (by omega) | exact two_pos _ | exact SqL.of (by assumption) | exact SqT.of (by assumption) | exact TyX.base (TyOf.int _) | exact TyX.base (TyOf.bl _) | exact TyX.base TyOf.non | exact scal_opt _ _ | exact k_ii | exact k_bi | exact k_ni | exact k_ib | exact k_bb | exact TyX.base (TyOf.lst (by assumption)) | exact k_ll | exact k_lt)
local macro_rules | `(tactic| walk_at "p") => `(tactic| repeat (first | refine And.intro (by walk_at "side") ?_ | apply Exists.intro | refine iteN (by assumption) ?_ | refine iteP (by assumption) ?_ | refine iteN (by decide) ?_ | refine iteP (by decide) ?_))

section
variable {P : Program} {w : World} {K : PySem.W.Frag} {mg : Str → Option Value} {base : Heap}
def sp_Grammar_init (T : Txt K mg) : Sp := fun vs H Q _ => ∃ (p dx lt : Addr) (L : List (Nat × Nat)) (n r : Nat), vs = [.ref p, .int (n : Nat), .int (r : Nat), .ref lt] ∧ H p = some (.ins T.C_Grammar dx []) ∧ LettersAt H lt L ∧ L.length ≤ 5 ∧ n ≤ 16 ∧ r ≤ 16 ∧
  ∀ H', (∀ b o, H b = some o → b ≠ p → H' b = some o) → Q .non H'
theorem sp_Grammar_init_len {T : Txt K mg} {vs H Q E} (h : sp_Grammar_init T vs H Q E) : vs.length = 4 := by obtain ⟨_, _, _, _, _, _, rfl, _⟩ := h; rfl
theorem ok_Grammar_init (T : Txt K mg) : FnOk P w K mg base CX0 2 T.f_Grammar_init T.fd_Grammar_init ["self", "word", "registers", "letters"] (sp_Grammar_init T) := by
  have G_letters_for := ok_letters_for (P := P) (w := w) (base := base) T
  refine T.F_Grammar_init.ok sc_Grammar_init (fun vs H Q E h => sp_Grammar_init_len h) (fun cdv A outer s H vs Q E hr h => ?_)
  obtain ⟨p, dx, lt, L, n, r, rfl, hp, hL, h5, hn, hr', k⟩ := h
  refine ⟨_, (pss_cons (ps_set (i := 4) sc_Grammar_init.nd rfl (Or.inr rfl) (pe_lc (own := [("letter", 5), ("_", 6)]) rfl sc_Grammar_init.nd (pi_tup (pv 3)) (blkOk_by (N := ["self", "word", "registers", "letters", "own", "letter", "_", "sign", "one"]) (sc := defScope s_Grammar_init) (by decide +kernel)) (fun _ _ _ _ _ => by (apply pg_tr; exact (pg_tup (n := 2) rfl (pgs_cons (pg_name (i := 5) sc_Grammar_init.nd rfl (Or.inl rfl)) (pgs_cons (pg_name (i := 6) sc_Grammar_init.nd rfl (Or.inl rfl)) pgs_nil))); (try dsimp only [Cx.blk]) <;> exact rfl)) (fun _ _ _ _ _ => by (apply pts_tr; exact pts_nil; (try dsimp only [Cx.blk]) <;> exact rfl)) (fun _ _ _ _ _ => by (apply pe_tr; exact (pv 5); (try dsimp only [Cx.blk]) <;> exact rfl))))
       (pss_cons (ps_fld (pv 0) (pe_dc (own := [("sign", 7)]) rfl sc_Grammar_init.nd (pi_str pe_str) (blkOk_by (N := ["self", "word", "registers", "letters", "own", "letter", "_", "sign", "one"]) (sc := defScope s_Grammar_init) (by decide +kernel)) (fun _ _ _ _ _ => by (apply pg_tr; exact pg_name (i := 7) sc_Grammar_init.nd rfl (Or.inl rfl); (try dsimp only [Cx.blk]) <;> exact rfl)) (fun _ _ _ _ _ => by (apply pts_tr; exact pts_nil; (try dsimp only [Cx.blk]) <;> exact rfl)) (fun _ _ _ _ _ => by (apply pe_tr; exact (pv 7); (try dsimp only [Cx.blk]) <;> exact rfl)) (fun _ _ _ _ _ => by (apply pe_tr; exact (pe_lc (own := [("one", 8)]) rfl sc_Grammar_init.nd (pi_str (pe_call G_letters_for hr rfl T.g_letters_for T.F_letters_for.kp T.b_letters_for .nil pass0 (pa_cons (pv 7) pa_nil))) (blk_rel (blkOk_by (N := ["self", "word", "registers", "letters", "own", "letter", "_", "sign", "one"]) (sc := cscope (asgV ((defBody s_Grammar_init).getD 1 (.Pass ⟨0, 0, 0, 0⟩)))) (by decide +kernel))) (fun _ _ _ _ _ => by (apply pg_tr; exact pg_name (i := 8) sc_Grammar_init.nd rfl (Or.inl rfl); (try dsimp only [Cx.blk]) <;> exact rfl)) (fun _ _ _ _ _ => by (apply pts_tr; exact (pts_one (pt_cmpR op_in_seq (pv 8) (pv 4) (by rfl))); (try dsimp only [Cx.blk]) <;> exact rfl)) (fun _ _ _ _ _ => by (apply pe_tr; exact (pv 8); (try dsimp only [Cx.blk]) <;> exact rfl))); (try dsimp only [Cx.blk]) <;> exact rfl))) rfl)
       (pss_one (ps_fld (pv 0) (pe_disp (pps_cons pe_str (pe_listRg rfl rfl T.n_list (prg_1 (by rfl) T.n_range (pv 2))) (pps_cons pe_str (pe_listRg rfl rfl T.n_list (prg_1 (by rfl) T.n_range (pe_op op_shl pe_int (pv 1)))) (pps_cons pe_str (pe_listRg rfl rfl T.n_list (prg_1 (by rfl) T.n_range pe_int)) (pps_cons pe_str (pe_listRg rfl rfl T.n_list (prg_1 (by rfl) T.n_range pe_int)) (pps_cons pe_str (pe_listRg rfl rfl T.n_list (prg_2 (by rfl) T.n_range pe_int pe_int)) pps_nil))))) rfl rfl (by intro z; cases z) (by decide)) rfl)))), ?_⟩
  obtain ⟨ts, hts, hR⟩ := hL
  refine ⟨_, rfl, lt, rfl, ⟨_, SqT.of hts⟩, fun D hD => ?_⟩
  refine lc_it (walk_tup (xs := ts)) (fun i H1 => ∃ ys : List V, Same H H1 ∧ H1 D = some (.lst ys) ∧ ys.length = i ∧ ys.all flatV = true) ⟨[], same_new hD, upd_same, rfl, rfl⟩ (fun i H1 _ ⟨_, s1, _⟩ => SqT.of (s1 _ _ hts)) ?_ ?_
  · rintro i x H1 H2 hi ⟨ys, s1, h1, l1, b1⟩ ⟨rfl, hx⟩
    obtain ⟨u, q, hq, hu, hr⟩ := hR.at (i := i) (by rw [← hR.1]; exact hi)
    rw [hu] at hx
    cases hx
    have l5 := hR.1
    have sz : sizeLine = 16777216 := sizeLine_eq
    refine ⟨u, _, rfl, SqT.of (s1 _ _ hr), rfl, _, _, rfl, _, _, rfl, rfl, rfl, _, rfl, _, h1, by omega, ys ++ [V.str (sg q.1)], fun b o e => ?_, upd_same, by simp [l1], ?_⟩
    · have bD : b ≠ D := fun z => by rw [z, hD] at e; cases e
      rw [upd_ne bD]; exact s1 _ _ e
    · rw [List.all_append, b1]; rfl
  rintro H1 ⟨ys, s1, h1, l1, b1⟩
  have sz : sizeLine = 16777216 := sizeLine_eq
  refine ⟨_, rfl, fun D2 hD2 => ?_⟩
  refine dc_it walk_str (fun i H2 => Same H1 H2 ∧ ∃ kvs, H2 D2 = some (.dK kvs) ∧ kvs.length ≤ i) ⟨same_new hD2, _, upd_same, Nat.le_refl _⟩ (fun _ _ _ _ => trivial) ?_ ?_
  · rintro i x H2 H3 hi ⟨s2, kvs, h2, l2⟩ ⟨rfl, c, hc, rfl⟩
    refine ⟨rfl, _, rfl, _, rfl, _, rfl, ?_⟩
    refine fun z' hz' => ⟨_, rfl, fun D3 hD3 => ?_⟩
    refine lc_it walk_str (fun j H4 => Same H3 H4 ∧ ∃ zs, H4 D3 = some (.lst zs) ∧ zs.length ≤ j) ⟨same_new hD3, _, upd_same, Nat.le_refl _⟩ (fun _ _ _ _ => trivial) ?_ ?_
    · rintro j y H4 H5 hj ⟨s4, zs, h4, l4⟩ ⟨rfl, c', hc', rfl⟩
      have hz : z'.cps.size = z'.length := rfl
      refine ⟨rfl, _, rfl, _, rfl, D, ys, rfl, .inl (SqL.of (s4 _ _ (s2 _ _ h1))), rfl, b1, ?_⟩
      refine ⟨_, rfl, iteB (fun cc => ?_) fun cc => ?_⟩
      · refine ⟨_, rfl, _, h4, by omega, fun b o e => ?_, _, upd_same, by simp; omega⟩
        have bD : b ≠ D3 := fun z => by rw [z, hD3] at e; cases e
        rw [upd_ne bD]; exact s4 _ _ e
      · exact ⟨s4, zs, h4, by omega⟩
    · rintro H4 ⟨s4, zs, h4, l4⟩
      have l6 : i < 6 := hi
      refine ⟨kvs, .inr ⟨#[c]⟩, rfl, s4 _ _ h2, by omega, fun b o e => ?_, _, upd_same, ?_⟩
      · have bD : b ≠ D2 := fun z => by rw [z, hD2] at e; cases e
        rw [upd_ne bD]; exact s4 _ _ (s2 _ _ e)
      · have := length_putK kvs (.inr ⟨#[c]⟩) (V.ref D3); omega
  · rintro H2 ⟨s2, kvs, h2, l2⟩
    refine ⟨_, rfl, p, _, _, _, rfl, s2 _ _ (s1 _ _ hp), T.cl_Grammar, T.nA_Grammar_letters, by decide, ?_⟩
    rw [show putF "letters" (V.ref D2) [] = [(("letters" : Str), V.ref D2)] from rfl]
    have kp : ∀ b o, H b = some o → b ≠ p → upd H2 p (.ins T.C_Grammar dx [("letters", .ref D2)]) b = some o := fun b o e hb => by rw [upd_ne hb]; exact s2 _ _ (s1 _ _ e)
    generalize hH3 : upd H2 p (.ins T.C_Grammar dx [("letters", .ref D2)]) = H3 at kp ⊢
    have hp3 : H3 p = some (.ins T.C_Grammar dx [("letters", .ref D2)]) := by rw [← hH3]; exact upd_same
    have pw : 2 ^ n ≤ 2 ^ 16 := Nat.pow_le_pow_right (by decide) hn
    have pI : ((2 ^ n : Nat) : Int) = 2 ^ n := Int.natCast_pow 2 n
    have p0 : (0 : Int) ≤ 2 ^ n := by rw [← pI]; exact Int.natCast_nonneg _
    have p1 : (2 : Int) ^ n ≤ 65536 := by rw [← pI]; exact Int.ofNat_le.mpr (Nat.le_trans pw (by decide))
    intro q hq
    have s4 : Same H3 (upd H3 q (.dK [])) := same_new hq
    refine ⟨_, rfl, _, rfl, RgOk.of_le (by omega) (by omega) (by omega) (by omega), fun q1 e1 => ?_⟩
    refine ⟨_, rfl, _, _, rfl, rfl, cpow1 (by omega) (by omega), _, rfl, RgOk.of_le (by omega) ?_ (by omega) ?_, fun q2 e2 => ?_⟩
    · rw [Int.one_mul, Int.toNat_natCast]; omega
    · rw [Int.one_mul, Int.toNat_natCast]; omega
    refine ⟨_, rfl, RgOk.of_le (by decide) (by decide) (by decide) (by decide), fun q3 e3 => ?_⟩
    refine ⟨_, rfl, RgOk.of_le (by decide) (by decide) (by decide) (by decide), fun q4 e4 => ?_⟩
    refine ⟨_, _, rfl, rfl, RgOk.of_le (by decide) (by decide) (by decide) (by decide), fun q5 e5 => ?_⟩
    have S5 : Same (upd H3 q (.dK [])) (upd (upd (upd (upd (upd (upd H3 q (.dK [])) q1 (.lst (rgV 0 r))) q2 (.lst (rgV 0 (1 * 2 ^ (n : Int).toNat)))) q3 (.lst (rgV 0 6))) q4 (.lst (rgV 0 10))) q5 (.lst (rgV 12 16))) := ((((same_new e1).trans (same_new e2)).trans (same_new e3)).trans (same_new e4)).trans (same_new e5)
    refine ⟨S5 _ _ upd_same, [(.inr "r", .ref q1), (.inr "v", .ref q2), (.inr "p", .ref q3), (.inr "q", .ref q4), (.inr "c", .ref q5)], rfl, by show 5 ≤ 15; decide, ?_⟩
    have pq : p ≠ q := ne_of_none hp3 hq
    refine ⟨_, rfl, p, _, _, _, rfl, by rw [upd_ne pq]; exact S5 _ _ (s4 _ _ hp3), T.cl_Grammar, T.nA_Grammar_numbers, by show 1 < 1000; decide, ?_⟩
    refine k _ fun b o e hb => ?_
    have e3' := kp b o e hb
    rw [upd_ne hb, upd_ne (ne_of_none e3' hq)]
    exact S5 _ _ (s4 _ _ e3')
end
end My

/-! F -/
namespace My
open PySem L2
local macro_rules | `(tactic| walk_at "side") => `(tactic| first | with_reducible rfl | assumption | rfl | decide | omega | exact cpow1 (by omega) (by omega) | exact cdiv (by omega) (by omega) | exact two_pos _ | exact SqL.of (by assumption) | exact SqT.of (by assumption) | exact TyX.base (TyOf.int _) | exact TyX.base (TyOf.bl _) | exact TyX.base TyOf.non | exact scal_opt _ _ | exact k_ii | exact k_bi | exact k_ni | exact k_ib | exact k_bb | exact TyX.base (TyOf.lst (by assumption)) | exact k_ll | exact k_lt)
local macro_rules | `(tactic| walk_at "p") => `(tactic| repeat (first | refine And.intro (by walk_at "side") ?_ | apply Exists.intro | refine iteN (by assumption) ?_ | refine iteP (by assumption) ?_ | refine iteN (by decide) ?_ | refine iteP (by decide) ?_))

/-- a row that tells a form without lines -/
def RowP (H : Hp) (t : Addr) (f : FM) : Prop := ∃ pa la, H t = some (.tup [.str f.nm, .ref pa, .ref la]) ∧ H pa = some (.lst (f.ps.map V.str)) ∧ H la = some (.lst [])
theorem RowP.news {H H' : Hp} {t : Addr} {f : FM} (h : RowP H t f) (s : Same H H') : RowP H' t f := by
  obtain ⟨pa, la, h1, h2, h3⟩ := h
  exact ⟨pa, la, s _ _ h1, s _ _ h2, s _ _ h3⟩
/-- all that was there and is no list is still there -/
def NL (H H' : Hp) : Prop := ∀ b o, H b = some o → (∀ xs, o ≠ HO.lst xs) → H' b = some o
theorem NL.of {H H' : Hp} (s : Same H H') : NL H H' := fun b o e _ => s b o e
theorem LettersAt.nl {H H' : Hp} {t : Addr} {L : List (Nat × Nat)} (h : LettersAt H t L) (s : NL H H') : LettersAt H' t L := by
  obtain ⟨ts, h1, h2⟩ := h
  exact ⟨ts, s _ _ h1 (fun xs z => by cases z), h2.map fun u q _ r => s _ _ r fun xs z => by cases z⟩
theorem FixAt.nl {H H' : Hp} {t : Addr} {ps : List Str} (h : FixAt H t ps) (s : NL H H') : FixAt H' t ps := by
  obtain ⟨ts, h1, h2⟩ := h
  exact ⟨ts, s _ _ h1 (fun xs z => by cases z), h2.map fun u q _ r => s _ _ r fun xs z => by cases z⟩
theorem FormAt.nl {C : Addr} {H H' : Hp} {a : Addr} {f : FM} (h : FormAt C H a f) (s : NL H H') : FormAt C H' a f := by
  obtain ⟨dx, pt, ln, lt, fx, h⟩ := h
  exact ⟨dx, pt, ln, lt, fx, s _ _ h.o (fun xs z => by cases z), s _ _ h.pt (fun xs z => by cases z), s _ _ h.ln (fun xs z => by cases z), h.lt.nl s, h.fx.nl s⟩
theorem NL.list {H : Hp} {l : Addr} {xs : List V} {o : HO} (h : H l = some (.lst xs)) : NL H (upd H l o) := fun b p e n => by
  by_cases hb : b = l
  · subst hb; rw [h] at e; exact absurd (Option.some.inj e).symm (n xs)
  · rw [upd_ne hb]; exact e
def FormsAt (C : Addr) (H : Hp) (t : Addr) (F : List FM) : Prop := ∃ us, H t = some (.tup us) ∧ Refs H us F (FormAt C)
structure BookOk (n r : Nat) (F : List FM) : Prop where
  n4 : 4 ≤ n
  n8 : n ≤ 8
  r1 : 1 ≤ r
  r4 : r ≤ 4
  f1 : 1 ≤ F.length
  f32 : F.length ≤ 32
  nd : (F.map FM.nm).Nodup
  nm : ∀ f ∈ F, nameOk f.nm
  ps : ∀ f ∈ F, PatsOk n r f.ps
theorem inNm (z : Str) : ∀ G : List FM, inV (V.str z) (G.map fun g => V.str g.nm) = decide (z ∈ G.map FM.nm)
  | [] => rfl
  | g :: r => by
    have ih := inNm z r
    unfold inV at ih ⊢
    rw [List.map_cons, List.any_cons, ih, List.map_cons]
    show (decide _ || _) = _
    by_cases h : g.nm = z
    · subst h; simp [eqV]
    · have h' : z ≠ g.nm := fun e => h e.symm
      simp [eqV, h, h']
theorem nodup_take {F : List FM} (h : (F.map FM.nm).Nodup) {i : Nat} {f : FM} (hf : F[i]? = some f) : ¬ f.nm ∈ (F.take i).map FM.nm := by
  intro hm
  have hi := (List.getElem?_eq_some_iff.mp hf).1
  have e : F = F.take i ++ F.drop i := (List.take_append_drop i F).symm
  rw [e, List.map_append, List.nodup_append] at h
  refine h.2.2 _ hm _ ?_ rfl
  refine List.mem_map_of_mem ?_
  rw [List.drop_eq_getElem_cons hi]
  have : F[i] = f := (List.getElem?_eq_some_iff.mp hf).2
  rw [this]; simp
theorem lettersM_le (ps : List (List Nat)) : (lettersM ps).length ≤ 5 := by
  unfold lettersM
  rw [List.length_map]
  exact List.length_filter_le _ _
section
variable {P : Program} {w : World} {K : PySem.W.Frag} {mg : Str → Option Value} {base : Heap}
def sp_checked_forms (T : Txt K mg) : Sp := fun vs H Q _ => ∃ (a : Addr) (ts : List V) (F : List FM) (n r : Nat), vs = [.int (n : Nat), .int (r : Nat), .ref a] ∧ H a = some (.lst ts) ∧ Refs H ts F RowP ∧ BookOk n r F ∧
  ∀ (H' : Hp) (t : Addr), Same H H' → FormsAt T.C_Form H' t F → Q (.ref t) H'
theorem sp_checked_forms_len {T : Txt K mg} {vs H Q E} (h : sp_checked_forms T vs H Q E) : vs.length = 3 := by obtain ⟨_, _, _, _, _, rfl, _⟩ := h; rfl
theorem ok_checked_forms (T : Txt K mg) : FnOk P w K mg base CX0 4 T.f_checked_forms T.fd_checked_forms ["word", "registers", "forms"] (sp_checked_forms T) := by
  have G_Form_init := ok_Form_init (P := P) (w := w) (base := base) T; have G_Grammar_init := ok_Grammar_init (P := P) (w := w) (base := base) T; have G_are_patterns := ok_are_patterns (P := P) (w := w) (base := base) T; have G_first_wrong := ok_first_wrong (P := P) (w := w) (base := base) T; have G_is_name := ok_is_name (P := P) (w := w) (base := base) T; have G_is_row := ok_is_row (P := P) (w := w) (base := base) T; have G_letters_of := ok_letters_of (P := P) (w := w) (base := base) T
  refine T.F_checked_forms.ok sc_checked_forms (fun vs H Q E h => sp_checked_forms_len h) (fun cdv A outer s H vs Q E hr h => ?_)
  obtain ⟨a, ts, F, n, r, rfl, ha, hR, hB, k⟩ := h
  refine ⟨_, (Evl.pss_cut (ps_if (PW.pt (pw_or (pt_not (pt_val (pe_call G_is_row (hr.mono (by decide)) rfl T.g_is_row T.F_is_row.kp T.b_is_row .nil pass0 (pa_cons (pv 2) pa_nil)))) (pw_or1 (pt_not (pt_chain op_le op_le pe_int (pe_callB call_lenL (by rfl) T.n_len (by decide +kernel) (pa_cons (pv 2) pa_nil)) (pe_glob (v := .int 32) rfl T.c_MOST_FORMS ⟨_, rfl⟩))))))
        (pss_one ps_never)
        pss_nil)
       (pss_cons (ps_set (i := 3) sc_checked_forms.nd rfl (Or.inl rfl) (pe_lst pa_nil))
       (pss_cons (ps_for PassesOwn.never rfl (pi_list (pv 2)) (pg_name (i := 4) sc_checked_forms.nd rfl (Or.inl rfl))
        (pss_cons (ps_if (PW.pt (pw_or (pt_not (pt_val (pe_call G_is_row (hr.mono (by decide)) rfl T.g_is_row T.F_is_row.kp T.b_is_row .nil pass0 (pa_cons (pv 4) pa_nil)))) (pw_or1 (pt_cmpR op_ne (pe_callB call_lenT (by rfl) T.n_len (by decide +kernel) (pa_cons (pv 4) pa_nil)) pe_int (nomark _)))))
        (pss_one ps_never)
        pss_nil)
       (pss_cons (ps_asg (pv 4) (pg_tup (n := 3) rfl (pgs_cons (pg_name (i := 5) sc_checked_forms.nd rfl (Or.inl rfl)) (pgs_cons (pg_name (i := 6) sc_checked_forms.nd rfl (Or.inl rfl)) (pgs_cons (pg_name (i := 7) sc_checked_forms.nd rfl (Or.inl rfl)) pgs_nil)))))
       (pss_cons (ps_if (PW.pt (pw_or (pt_not (pt_val (pe_call G_is_name (hr.mono (by decide)) rfl T.g_is_name T.F_is_name.kp T.b_is_name .nil pass0 (pa_cons (pv 5) pa_nil)))) (pw_or1 (pt_cmpR op_in_seq (pv 5) (pe_lc (own := [("form", 9)]) rfl sc_checked_forms.nd (pi_list (pv 3)) (blkOk_by (N := ["word", "registers", "forms", "made", "entry", "name", "patterns", "lines", "wrong", "form", "line"]) (sc := defScope s_checked_forms) (by decide +kernel)) (fun _ _ _ _ _ => by (apply pg_tr; exact pg_name (i := 9) sc_checked_forms.nd rfl (Or.inl rfl); (try dsimp only [Cx.blk]) <;> exact rfl)) (fun _ _ _ _ _ => by (apply pts_tr; exact pts_nil; (try dsimp only [Cx.blk]) <;> exact rfl)) (fun _ _ _ _ _ => by (apply pe_tr; exact (pe_fldA (pv 9)); (try dsimp only [Cx.blk]) <;> exact rfl))) (by rfl)))))
        (pss_one ps_never)
        pss_nil)
       (pss_cons (ps_if (pt_not (pt_val (pe_call G_are_patterns (hr.mono (by decide)) rfl T.g_are_patterns T.F_are_patterns.kp T.b_are_patterns .nil pass0 (pa_cons (pv 0) (pa_cons (pv 1) (pa_cons (pv 6) pa_nil))))))
        (pss_one ps_never)
        pss_nil)
       (pss_cons (ps_if (PW.pt (pw_or (pt_not (pt_val (pe_call G_is_row (hr.mono (by decide)) rfl T.g_is_row T.F_is_row.kp T.b_is_row .nil pass0 (pa_cons (pv 7) pa_nil)))) (pw_or1 (pt_cmpR op_gt (pe_callB call_lenL (by rfl) T.n_len (by decide +kernel) (pa_cons (pv 7) pa_nil)) (pe_glob (v := .int 12) rfl T.c_MOST_LINES ⟨_, rfl⟩) (nomark _)))))
        (pss_one ps_never)
        pss_nil)
       (pss_cons (ps_set (i := 8) sc_checked_forms.nd rfl (Or.inl rfl) (pe_call G_first_wrong (hr.mono (by decide)) rfl T.g_first_wrong T.F_first_wrong.kp T.b_first_wrong .nil pass0 (pa_cons (pe_make T.M_Grammar G_Grammar_init hr rfl T.g_Grammar T.b_Grammar_init .nil pass0 (pa_cons (pv 0) (pa_cons (pv 1) (pa_cons (pe_call G_letters_of (hr.mono (by decide)) rfl T.g_letters_of T.F_letters_of.kp T.b_letters_of .nil pass0 (pa_cons (pv 6) pa_nil)) pa_nil)))) (pa_cons (pv 7) pa_nil))))
       (pss_cons (ps_if (pt_cmpR op_notN (pv 8) pe_non (nomark _))
        (pss_one ps_never)
        pss_nil)
       (pss_one (ps_expr (pe_bm PySem.F.plainAttrs_list PySem.F.slot_list_append PySem.F.type_list_append mt_append (pv 3) (pa_cons (pe_make T.M_Form G_Form_init hr rfl T.g_Form T.b_Form_init .nil pass0 (pa_cons (pv 5) (pa_cons (pe_callTy call_tupleL (by rfl) T.n_tuple (by decide +kernel) (pa_cons (pv 6) pa_nil)) (pa_cons (pe_callTy call_tupleL (by rfl) T.n_tuple (by decide +kernel) (pa_cons (pe_lc (own := [("line", 10)]) rfl sc_checked_forms.nd (pi_list (pv 7)) (blkOk_by (N := ["word", "registers", "forms", "made", "entry", "name", "patterns", "lines", "wrong", "form", "line"]) (sc := defScope s_checked_forms) (by decide +kernel)) (fun _ _ _ _ _ => by (apply pg_tr; exact pg_name (i := 10) sc_checked_forms.nd rfl (Or.inl rfl); (try dsimp only [Cx.blk]) <;> exact rfl)) (fun _ _ _ _ _ => by (apply pts_tr; exact pts_nil; (try dsimp only [Cx.blk]) <;> exact rfl)) (fun _ _ _ _ _ => by (apply pe_tr; exact (pe_callTy call_tupleTT (by rfl) T.n_tuple (by decide +kernel) (pa_cons (pv 10) pa_nil)); (try dsimp only [Cx.blk]) <;> exact rfl))) pa_nil)) pa_nil)))) pa_nil))))))))))))
       (pss_one (ps_ret (pe_callTy call_tupleL (by rfl) T.n_tuple (by decide +kernel) (pa_cons (pv 3) pa_nil))))))), ?_⟩
  have sz : sizeLine = 16777216 := sizeLine_eq
  have hl := hR.1
  have b1 := hB.f1
  have b32 := hB.f32
  have d1 : decide ((1 : Int) ≤ (ts.length : Nat)) = true := dT (by omega)
  have d2 : decide (((ts.length : Nat) : Int) ≤ 32) = true := dT (by omega)
  have d3 := nF d2
  refine ⟨fun σ' H' => Same H H' ∧ σ' = start ["word", "registers", "forms", "made", "entry", "name", "patterns", "lines", "wrong", "form", "line"] [.int (n : Nat), .int (r : Nat), .ref a], ?_, ?_⟩
  · refine ⟨_, rfl, .inl ⟨a, _, rfl, .inl ha, fun H1 s1 => ?_⟩⟩
    refine ⟨_, rfl, iteN (fun q => by cases q) ?_⟩
    refine ⟨_, rfl, a, _, rfl, SqL.of (s1 _ _ ha), _, _, rfl, rfl, _, rfl, iteP d1 ⟨_, _, rfl, rfl, _, rfl, iteN d3 ?_⟩⟩
    exact ⟨s1, rfl⟩
  rintro σ' H1 ⟨s1, rfl⟩
  refine ⟨Nat.zero_le _, fun l hl0 => ?_⟩
  have l0 : H l = none := by
    cases e : H l with
    | none => rfl
    | some o => rw [s1 _ _ e] at hl0; cases hl0
  refine ⟨_, rfl, a, rfl, ⟨_, SqL.of (same_new hl0 _ _ (s1 _ _ ha))⟩, ?_⟩
  refine for_it (walk_list (xs := ts)) (fun i σ H2 => Same H H2 ∧ ∃ us, H2 l = some (.lst us) ∧ Refs H2 us (F.take i) (FormAt T.C_Form) ∧ ∃ v4 v5 v6 v7 v8 v9 v10 : Option V, σ = [some (.int (n : Nat)), some (.int (r : Nat)), some (.ref a), some (.ref l), v4, v5, v6, v7, v8, v9, v10])
    ⟨s1.trans (same_new hl0), [], upd_same, Refs.nil, none, none, none, none, none, none, none, rfl⟩ (fun i σ H2 _ ⟨s2, _⟩ => SqL.of (s2 _ _ ha)) ?_ ?_
  · rintro i x σ H2 H3 hi ⟨s2, us, hus, hRu, v4, v5, v6, v7, v8, v9, v10, rfl⟩ ⟨rfl, hx⟩
    obtain ⟨t, f, hf, ht, hP⟩ := hR.at (i := i) (by omega)
    rw [ht] at hx
    cases hx
    have hfm := List.mem_of_getElem? hf
    have hp := hB.ps f hfm
    have hl3 := hp.l3
    obtain ⟨pa, la, htt, hpa, hla⟩ := hP
    have e1 := s2 _ _ htt
    refine ⟨_, rfl, .inl ⟨t, _, rfl, .inr e1, fun H4 s4 => ?_⟩⟩
    have e2 := s4 _ _ e1
    refine ⟨_, rfl, iteN (fun q => by cases q) ?_⟩
    refine ⟨_, rfl, t, _, rfl, SqT.of e2, rfl, _, rfl, iteN (by show ¬ (!decide (V.int ((3 : Nat) : Int) = V.int 3)) = true; decide) ?_⟩
    refine ⟨_, rfl, t, _, rfl, SqT.of e2, rfl, _, _, rfl, _, _, rfl, _, _, rfl, rfl, ?_⟩
    refine ⟨_, rfl, f.nm, rfl, hB.nm f hfm, fun H5 s5 => ?_⟩
    refine ⟨_, rfl, iteN (fun q => by cases q) ?_⟩
    have s25 := s4.trans s5
    refine ⟨_, rfl, _, rfl, l, rfl, ⟨_, SqL.of (s25 _ _ hus)⟩, fun D hD => ?_⟩
    have hRu5 := hRu.map fun u x _ h => h.news s25
    refine lc_it (walk_list (xs := us)) (fun j H6 => Same H5 H6 ∧ H6 D = some (.lst (((F.take i).map (fun g => V.str g.nm)).take j))) ⟨same_new hD, upd_same⟩ (fun j H6 _ ⟨s6, _⟩ => SqL.of (s6 _ _ (s25 _ _ hus))) ?_ ?_
    · rintro j x H6 H7 hj ⟨s6, h6⟩ ⟨rfl, hx⟩
      obtain ⟨u, g, hg, hu, hr⟩ := hRu5.at (i := j) (by rw [← hRu5.1]; exact hj)
      rw [hu] at hx
      cases hx
      obtain ⟨gdx, gpt, gln, glt, gfx, hg6⟩ := hr.news s6
      refine ⟨rfl, _, rfl, u, T.C_Form, gdx, _, _, rfl, hg6.o, T.cl_Form, T.nA_Form_name, look_form_name .., _, h6, ?_, fun b o e => ?_, ?_⟩
      · refine Nat.lt_of_le_of_lt (List.length_take_le' _ _) ?_
        rw [List.length_map, List.length_take]; omega
      · have bD : b ≠ D := fun z => by rw [z, hD] at e; cases e
        rw [upd_ne bD]; exact s6 _ _ e
      · rw [upd_same, List.take_succ, List.getElem?_map, hg]; rfl
    rintro H6 ⟨s6, h6⟩
    rw [List.take_of_length_le (by rw [List.length_map, ← hRu.1]; exact Nat.le_refl _)] at h6
    refine ⟨D, _, rfl, .inl (SqL.of h6), rfl, ?_, _, rfl, iteN ?_ ?_⟩
    · rw [List.all_map]; exact List.all_eq_true.mpr fun _ _ => rfl
    · rw [if_neg (by decide), inNm]
      exact dF (nodup_take hB.nd hf)
    have s26 := s25.trans s6
    have n8 := hB.n8
    refine ⟨_, rfl, _, rfl, _, rfl, pa, f.ps, n, r, rfl, .inl ((s2.trans s26) _ _ hpa), by omega, hp, fun H7 s7 => ?_⟩
    refine ⟨_, rfl, iteN (fun q => by cases q) ?_⟩
    have s27 := s26.trans s7
    refine ⟨_, rfl, .inl ⟨la, _, rfl, .inl ((s2.trans s27) _ _ hla), fun H8 s8 => ?_⟩⟩
    have s28 := s27.trans s8
    refine ⟨_, rfl, iteN (fun q => by cases q) ?_⟩
    refine ⟨_, rfl, la, _, rfl, SqL.of ((s2.trans s28) _ _ hla), _, _, rfl, rfl, _, rfl, iteN (by decide) ?_⟩
    have l1000 : lens f.ps ≤ 1000 := by
      rw [lens_le fun z hz => (hp.pat z hz).1]
      have := Nat.mul_le_mul hl3 n8
      omega
    refine ⟨_, rfl, _, rfl, _, rfl, pa, f.ps, rfl, .inl ((s2.trans s28) _ _ hpa), l1000, fun H9 lt s9 lt0 hL => ?_⟩
    intro g gd g0 gd0 gne
    have sg : Same H9 (upd (upd H9 gd (.own g)) g (.ins T.C_Grammar gd [])) := (same_new gd0).trans (same_new (by rw [upd_ne (Ne.symm gne)]; exact g0))
    refine ⟨g, gd, lt, _, n, r, rfl, upd_same, hL.news sg, ?_, by omega, by have := hB.r4; omega, fun H10 k10 => ⟨rfl, ?_⟩⟩
    · exact lettersM_le _
    have s10 : Same H3 H10 := fun b o e => k10 _ _ (sg _ _ (s9 _ _ (s28 _ _ e))) fun z => by
      have := s9 _ _ (s28 _ _ e); rw [z, g0] at this; cases this
    refine ⟨_, rfl, g, la, rfl, .inl ((s2.trans s10) _ _ hla), fun H11 s11 => ?_⟩
    have s11' := s10.trans s11
    refine ⟨_, rfl, rfl, _, rfl, iteN (by decide) ?_⟩
    refine ⟨_, rfl, .inl ⟨rfl, _, SqL.of (s11' _ _ hus)⟩, ?_⟩
    refine ⟨_, rfl, _, rfl, pa, _, rfl, SqL.of ((s2.trans s11') _ _ hpa), fun pt pt0 => ?_⟩
    have s12 : Same H3 (upd H11 pt (.tup (f.ps.map V.str))) := s11'.trans (same_new pt0)
    refine ⟨_, rfl, la, rfl, ⟨_, SqL.of ((s2.trans s12) _ _ hla)⟩, fun D2 hD2 => ?_⟩
    refine lc_it (walk_list (xs := [])) (fun _ H13 => H13 = upd (upd H11 pt (.tup (f.ps.map V.str))) D2 (.lst [])) rfl (fun j H13 _ e => by rw [e]; exact SqL.of (same_new hD2 _ _ ((s2.trans s12) _ _ hla))) (fun i x H1 H2 hi => absurd hi (Nat.not_lt_zero _)) ?_
    rintro H13 rfl
    have s13 := s12.trans (same_new (o := .lst []) hD2)
    refine ⟨D2, _, rfl, SqL.of upd_same, fun ln ln0 => ?_⟩
    have s14 := s13.trans (same_new (o := .tup []) ln0)
    intro fa fd fa0 fd0 fne
    generalize hH14 : upd (upd (upd H11 pt (.tup (f.ps.map V.str))) D2 (.lst [])) ln (.tup []) = H14 at s14 fa0 fd0 ⊢
    have sg2 : Same H14 (upd (upd H14 fd (.own fa)) fa (.ins T.C_Form fd [])) := (same_new fd0).trans (same_new (by rw [upd_ne (Ne.symm fne)]; exact fa0))
    have hpt : H14 pt = some (.tup (f.ps.map V.str)) := by
      rw [← hH14]
      exact same_new ln0 _ _ (same_new hD2 _ _ upd_same)
    have hln : H14 ln = some (.tup []) := by rw [← hH14]; exact upd_same
    refine ⟨fa, fd, pt, ln, f, rfl, upd_same, sg2 _ _ hpt, sg2 _ _ hln, l1000, fun z hz => by rw [(hp.pat z hz).1]; omega, hl3, fun H15 k15 hF => ⟨rfl, ?_⟩⟩
    have s15 : Same H3 H15 := fun b o e => k15 _ _ (sg2 _ _ (s14 _ _ e)) fun z => by
      have := s14 _ _ e; rw [z, fa0] at this; cases this
    have hl15 := s15 _ _ hus
    refine ⟨l, us, _, rfl, rfl, hl15, by have := hRu.1; rw [List.length_take] at this; omega, ?_⟩
    have nl : NL H15 (upd H15 l (.lst (us ++ [V.ref fa]))) := NL.list hl15
    refine ⟨fun b o e => ?_, _, upd_same, ?_, ?_⟩
    · have bl : b ≠ l := fun z => by rw [z, l0] at e; cases e
      rw [upd_ne bl]; exact s15 _ _ (s2 _ _ e)
    · rw [List.take_succ, hf]
      exact ((hRu.map fun u x _ h => (h.news s15).nl nl).snoc (hF.nl nl))
    · exact ⟨_, _, _, _, _, _, _, rfl⟩
  · rintro σ H2 ⟨s2, us, hus, hRu, v4, v5, v6, v7, v8, v9, v10, rfl⟩
    rw [List.take_of_length_le (by omega)] at hRu
    refine ⟨_, rfl, l, us, rfl, SqL.of hus, fun t t0 => ?_⟩
    exact k _ _ (s2.trans (same_new t0)) ⟨us, upd_same, hRu.map fun u x _ h => h.news (same_new t0)⟩
end
end My

/-! G -/
namespace My
open PySem L2
local macro_rules | `(tactic| walk_at "side") => `(tactic| first | with_reducible rfl | assumption | rfl | decide | omega | exact cpow1 (by omega) (by omega) | exact cdiv (by omega) (by omega) | exact two_pos _ | exact SqL.of (by assumption) | exact SqT.of (by assumption) | exact TyX.base (TyOf.int _) | exact TyX.base (TyOf.bl _) | exact TyX.base TyOf.non | exact scal_opt _ _ | exact k_ii | exact k_bi | exact k_ni | exact k_ib | exact k_bb | exact TyX.base (TyOf.lst (by assumption)) | exact k_ll | exact k_lt)
local macro_rules | `(tactic| walk_at "p") => `(tactic| repeat (first | refine And.intro (by walk_at "side") ?_ | apply Exists.intro | refine iteN (by assumption) ?_ | refine iteP (by assumption) ?_ | refine iteN (by decide) ?_ | refine iteP (by decide) ?_))

def book4 (n r : Nat) (ft nd : Addr) : List (Str × V) := [("word", .int (n : Nat)), ("registers", .int (r : Nat)), ("forms", .ref ft), ("_named", .ref nd)]
theorem look4_word (n r : Nat) (ft nd : Addr) : (book4 n r ft nd).lookup ("word" : Str) = some (.int (n : Nat)) := by unfold book4; rw [lk, if_pos rfl]
theorem look4_registers (n r : Nat) (ft nd : Addr) : (book4 n r ft nd).lookup ("registers" : Str) = some (.int (r : Nat)) := by unfold book4; rw [lk, if_neg (by decide +kernel), lk, if_pos rfl]
theorem look4_forms (n r : Nat) (ft nd : Addr) : (book4 n r ft nd).lookup ("forms" : Str) = some (.ref ft) := by unfold book4; rw [lk, if_neg (by decide +kernel), lk, if_neg (by decide +kernel), lk, if_pos rfl]
def rowOk (es : List V) : Prop := (∀ e ∈ es, entOk e) ∧ es.length ≤ 20
def TupAt (H : Hp) (u : Addr) (es : List V) : Prop := H u = some (.tup es)
theorem FormsAt.nl {C : Addr} {H H' : Hp} {t : Addr} {F : List FM} (h : FormsAt C H t F) (s : NL H H') : FormsAt C H' t F := by
  obtain ⟨us, h1, h2⟩ := h
  exact ⟨us, s _ _ h1 (fun xs z => by cases z), h2.map fun u q _ r => r.nl s⟩
theorem sum_le1000 : ∀ ys : List Str, (∀ y ∈ ys, y.length ≤ 1000) → (ys.map (·.length)).sum ≤ ys.length * 1000
  | [], _ => by simp
  | y :: r, h => by
    have ih := sum_le1000 r fun z hz => h z (by simp [hz])
    have := h y (by simp)
    rw [List.map_cons, List.sum_cons, List.length_cons, Nat.succ_mul]; omega
section
variable {P : Program} {w : World} {K : PySem.W.Frag} {mg : Str → Option Value} {base : Heap}
def sp_written (T : Txt K mg) : Sp := fun vs H Q _ => ∃ (p dx ft nd : Addr) (F : List FM) (n r : Nat), vs = [.ref p] ∧ H p = some (.ins T.C_Book dx (book4 n r ft nd)) ∧ FormsAt T.C_Form H ft F ∧ BookOk n r F ∧
  ∀ (H' : Hp) (z : Str), Same H H' → Q (.str z) H'
theorem sp_written_len {T : Txt K mg} {vs H Q E} (h : sp_written T vs H Q E) : vs.length = 1 := by obtain ⟨_, _, _, _, _, _, _, rfl, _⟩ := h; rfl
theorem ok_written (T : Txt K mg) : FnOk P w K mg base CX0 2 T.f_written T.fd_written ["book"] (sp_written T) := by
  have G_written_line := ok_written_line (P := P) (w := w) (base := base) T
  refine T.F_written.ok sc_written (fun vs H Q E h => sp_written_len h) (fun cdv A outer s H vs Q E hr h => ?_)
  obtain ⟨p, dx, ft, nd, F, n, r, rfl, hp, hF, hB, k⟩ := h
  refine ⟨_, (pss_cons (ps_set (i := 1) sc_written.nd rfl (Or.inl rfl) (pe_lst (pa_cons (pe_tup (pa_cons pe_str (pa_cons (pe_fldA (pv 0)) pa_nil))) (pa_cons (pe_tup (pa_cons pe_str (pa_cons (pe_fldA (pv 0)) pa_nil))) pa_nil))))
       (pss_cons (ps_for PassesOwn.never rfl (pi_tup (pe_fldA (pv 0))) (pg_name (i := 2) sc_written.nd rfl (Or.inl rfl))
        (pss_cons (ps_expr (pe_bm PySem.F.plainAttrs_list PySem.F.slot_list_append PySem.F.type_list_append mt_append (pv 1) (pa_cons (pe_op op_catT (pe_tup (pa_cons pe_str (pa_cons (pe_fldA (pv 2)) pa_nil))) (pe_fldA (pv 2))) pa_nil)))
       (pss_one (ps_expr (pe_bm PySem.F.plainAttrs_list PySem.F.slot_list_extend PySem.F.type_list_extend mt_extendT (pv 1) (pa_cons (pe_fldA (pv 2)) pa_nil))))))
       (pss_one (ps_ret (pe_join pe_str (pe_lc (own := [("row", 3)]) rfl sc_written.nd (pi_list (pv 1)) (blkOk_by (N := ["book", "rows", "form", "row"]) (sc := defScope s_written) (by decide +kernel)) (fun _ _ _ _ _ => by (apply pg_tr; exact pg_name (i := 3) sc_written.nd rfl (Or.inl rfl); (try dsimp only [Cx.blk]) <;> exact rfl)) (fun _ _ _ _ _ => by (apply pts_tr; exact pts_nil; (try dsimp only [Cx.blk]) <;> exact rfl)) (fun _ _ _ _ _ => by (apply pe_tr; exact (pe_call G_written_line hr rfl T.g_written_line T.F_written_line.kp T.b_written_line .nil pass0 (pa_cons (pv 3) pa_nil)); (try dsimp only [Cx.blk]) <;> exact rfl)))))))), ?_⟩
  have sz : sizeLine = 16777216 := sizeLine_eq
  have n8 := hB.n8
  have r4 := hB.r4
  have b32 := hB.f32
  have hO := hp
  refine ⟨_, rfl, p, T.C_Book, dx, _, _, rfl, hp, T.cl_Book, T.nA_Book_word, look4_word .., ?_⟩
  refine ⟨by show 2 ≤ _; omega, fun u u0 => ?_⟩
  have s1 := same_new (o := .tup [.str "word", .int (n : Nat)]) u0
  refine ⟨_, rfl, p, T.C_Book, dx, _, _, rfl, s1 _ _ hp, T.cl_Book, T.nA_Book_registers, look4_registers .., ?_⟩
  refine ⟨by show 2 ≤ _; omega, fun u' u0' => ?_⟩
  have s2 := s1.trans (same_new (o := .tup [.str "registers", .int (r : Nat)]) u0')
  refine ⟨by show 2 ≤ _; omega, fun l l0 => ?_⟩
  have s3 := s2.trans (same_new (o := .lst [.ref u, .ref u']) l0)
  have nl0 : H l = none := by
    cases e : H l with
    | none => rfl
    | some o => rw [s2 _ _ e] at l0; cases l0
  have r0 : Refs (upd (upd (upd H u (.tup [.str "word", .int (n : Nat)])) u' (.tup [.str "registers", .int (r : Nat)])) l (.lst [.ref u, .ref u'])) [V.ref u, V.ref u'] [[.str "word", .int (n : Nat)], [.str "registers", .int (r : Nat)]] TupAt := by
    have a := (Refs.nil (H := upd (upd (upd H u (.tup [.str "word", .int (n : Nat)])) u' (.tup [.str "registers", .int (r : Nat)])) l (.lst [.ref u, .ref u'])) (R := TupAt)).snoc (u := u) (x := [.str "word", .int (n : Nat)]) (same_new l0 _ _ (same_new u0' _ _ upd_same))
    exact a.snoc (u := u') (x := [.str "registers", .int (r : Nat)]) (same_new l0 _ _ upd_same)
  generalize hH3 : upd (upd (upd H u (.tup [.str "word", .int (n : Nat)])) u' (.tup [.str "registers", .int (r : Nat)])) l (.lst [.ref u, .ref u']) = H3 at s3 r0 ⊢
  have hl3 : H3 l = some (.lst [.ref u, .ref u']) := by rw [← hH3]; exact upd_same
  obtain ⟨us, hus, hRu⟩ := hF
  have hFl := hRu.1
  refine ⟨_, rfl, p, T.C_Book, dx, _, _, rfl, s3 _ _ hp, T.cl_Book, T.nA_Book_forms, look4_forms .., ft, rfl, ⟨_, SqT.of (s3 _ _ hus)⟩, ?_⟩
  refine for_it (walk_tup (xs := us)) (fun i σ H2 => Same H H2 ∧ ∃ rs ess, H2 l = some (.lst rs) ∧ Refs H2 rs ess TupAt ∧ (∀ es ∈ ess, rowOk es) ∧ rs.length = 2 + i ∧ ∃ v2 v3 : Option V, σ = [some (.ref p), some (.ref l), v2, v3])
    ⟨s3, _, _, hl3, r0, ?_, rfl, none, none, rfl⟩ (fun i σ H2 _ ⟨s2, _⟩ => SqT.of (s2 _ _ hus)) ?_ ?_
  · intro es he
    simp only [List.mem_cons, List.not_mem_nil, or_false] at he
    rcases he with rfl | rfl
    · refine ⟨fun e he => ?_, by show 2 ≤ 20; decide⟩
      simp only [List.mem_cons, List.not_mem_nil, or_false] at he
      rcases he with rfl | rfl
      · exact .inr ⟨_, rfl, by decide⟩
      · exact .inl ⟨_, rfl, n8⟩
    · refine ⟨fun e he => ?_, by show 2 ≤ 20; decide⟩
      simp only [List.mem_cons, List.not_mem_nil, or_false] at he
      rcases he with rfl | rfl
      · exact .inr ⟨_, rfl, by decide⟩
      · exact .inl ⟨_, rfl, by omega⟩
  · rintro i x σ H2 H4 hi ⟨s4, rs, ess, hrs, hRs, hO, hlen, v2, v3, rfl⟩ ⟨rfl, hx⟩
    obtain ⟨t, f, hf, ht, hP⟩ := hRu.at (i := i) (by omega)
    rw [ht] at hx
    cases hx
    have hfm := List.mem_of_getElem? hf
    have hp' := hB.ps f hfm
    have hl3 := hp'.l3
    have hl1 := hp'.l1
    have hnm := hB.nm f hfm
    obtain ⟨fdx, fpt, fln, flt, ffx, hfo, hfpt, hfln, hflt, hffx⟩ := hP.news s4
    refine ⟨_, rfl, .inl ⟨rfl, _, SqL.of hrs⟩, ?_⟩
    refine ⟨_, rfl, t, T.C_Form, fdx, _, _, rfl, hfo, T.cl_Form, T.nA_Form_name, look_form_name .., ?_⟩
    refine ⟨by show 2 ≤ _; omega, fun q q0 => ?_⟩
    have s5 := same_new (o := .tup [.str "form", .str f.nm]) q0
    refine ⟨_, rfl, t, T.C_Form, fdx, _, _, rfl, s5 _ _ hfo, T.cl_Form, T.nA_Form_patterns, look_form_patterns .., ?_⟩
    refine ⟨q, fpt, _, _, rfl, rfl, SqT.of upd_same, SqT.of (s5 _ _ hfpt), (by intro z; cases z), by rw [List.length_map]; show 2 + _ ≤ _; omega, fun z => ?_, fun _ q' q0' => ?_⟩
    · have := congrArg List.length z
      rw [List.length_map] at this
      exact absurd (show f.ps.length = 0 from this) (by omega)
    have s6 := s5.trans (same_new (o := .tup ([.str "form", .str f.nm] ++ f.ps.map V.str)) q0')
    refine ⟨l, rs, _, rfl, rfl, s6 _ _ hrs, by omega, ?_⟩
    have bl : ∀ b o, H b = some o → b ≠ l := fun b o e z => by rw [z, nl0] at e; cases e
    have nl := NL.list (s6 _ _ hrs) (o := .lst (rs ++ [V.ref q']))
    have hfo' := nl _ _ (s6 _ _ hfo) (fun xs z => by cases z)
    have hfln' := nl _ _ (s6 _ _ hfln) (fun xs z => by cases z)
    refine ⟨_, rfl, .inl ⟨rfl, _, SqL.of upd_same⟩, ?_⟩
    refine ⟨_, rfl, t, T.C_Form, fdx, _, _, rfl, hfo', T.cl_Form, T.nA_Form_lines, look_form_lines .., ?_⟩
    refine ⟨l, fln, _, [], rfl, rfl, upd_same, hfln', by rw [List.length_append]; show rs.length + 1 + 0 ≤ _; omega, ?_⟩
    rw [List.append_nil]
    refine ⟨fun b o e => ?_, _, ess ++ [[.str "form", .str f.nm] ++ f.ps.map V.str], upd_same, ?_, ?_, by simp; omega, _, _, rfl⟩
    · rw [upd_ne (bl b o e), upd_ne (bl b o e)]; exact s6 _ _ (s4 _ _ e)
    · have nl2 : NL (upd (upd (upd H4 q (.tup [.str "form", .str f.nm])) q' (.tup ([.str "form", .str f.nm] ++ f.ps.map V.str))) l (.lst (rs ++ [V.ref q']))) (upd (upd (upd (upd H4 q (.tup [.str "form", .str f.nm])) q' (.tup ([.str "form", .str f.nm] ++ f.ps.map V.str))) l (.lst (rs ++ [V.ref q']))) l (.lst (rs ++ [V.ref q']))) := NL.list upd_same
      refine (hRs.map (R' := TupAt) fun u x _ h => nl2 _ _ (nl _ _ (s6 _ _ h) (fun xs z => by cases z)) (fun xs z => by cases z)).snoc (x := [.str "form", .str f.nm] ++ f.ps.map V.str) ?_
      exact nl2 _ _ (nl _ _ upd_same (fun xs z => by cases z)) (fun xs z => by cases z)
    · intro es he
      rcases List.mem_append.mp he with he | he
      · exact hO es he
      · rw [List.mem_singleton.mp he]
        refine ⟨fun e he => ?_, by rw [List.length_append, List.length_map]; show 2 + _ ≤ _; omega⟩
        rcases List.mem_append.mp he with he | he
        · simp only [List.mem_cons, List.not_mem_nil, or_false] at he
          rcases he with rfl | rfl
          · exact .inr ⟨_, rfl, by decide⟩
          · exact .inr ⟨_, rfl, by have := hnm.2.1; omega⟩
        · obtain ⟨z, hz, rfl⟩ := List.mem_map.mp he
          exact .inr ⟨_, rfl, by have := (hp'.pat z hz).1; omega⟩
  · rintro σ H2 ⟨s4, rs, ess, hrs, hRs, hO, hlen, v2, v3, rfl⟩
    have nl0' : ∀ b o, H b = some o → b ≠ l := fun b o e z => by rw [z, nl0] at e; cases e
    have hel := hRs.1
    refine ⟨⟨_, rfl⟩, _, rfl, l, rfl, ⟨_, SqL.of hrs⟩, fun D hD => ?_⟩
    refine lc_it (walk_list (xs := rs)) (fun i H5 => ∃ ys : List Str, Same H2 H5 ∧ H5 D = some (.lst (ys.map V.str)) ∧ ys.length = i ∧ ∀ y ∈ ys, y.length ≤ 1000) ⟨[], same_new hD, upd_same, rfl, by simp⟩ (fun i H5 _ ⟨_, s5, _⟩ => SqL.of (s5 _ _ hrs)) ?_ ?_
    · rintro i x H5 H6 hi ⟨ys, s5, h5, l5, b5⟩ ⟨rfl, hx⟩
      obtain ⟨t, es, he, ht, hT⟩ := hRs.at (i := i) (by omega)
      rw [ht] at hx
      cases hx
      obtain ⟨o1, o2⟩ := hO es (List.mem_of_getElem? he)
      refine ⟨rfl, _, rfl, t, es, rfl, s5 _ _ hT, o1, o2, fun H7 z s7 hz => ⟨_, s7 _ _ h5, by rw [List.length_map]; omega, ys ++ [z], fun b o e => ?_, by rw [upd_same, List.map_append]; rfl, by simp [l5], fun y hy => ?_⟩⟩
      · have bD : b ≠ D := fun z => by rw [z, hD] at e; cases e
        rw [upd_ne bD]; exact s7 _ _ (s5 _ _ e)
      · rcases List.mem_append.mp hy with hy | hy
        · exact b5 y hy
        · rw [List.mem_singleton.mp hy]; exact hz
    rintro H5 ⟨ys, s5, h5, l5, b5⟩
    have sum := sum_le1000 ys b5
    refine ⟨_, D, ys, rfl, rfl, .inl (SqL.of h5), by show _ + ys.length * 0 ≤ _; omega, ?_⟩
    exact k _ _ (s4.trans s5)
end
end My

/-! I -/
namespace My
open PySem L2
local macro_rules | `(tactic| walk_at "side") => `(tactic| first | with_reducible rfl | assumption | rfl | decide | omega | exact cpow1 (by omega) (by omega) | exact cdiv (by omega) (by omega) | exact two_pos _ | exact SqL.of (by assumption) | exact SqT.of (by assumption) | exact TyX.base (TyOf.int _) | exact TyX.base (TyOf.bl _) | exact TyX.base TyOf.non | exact scal_opt _ _ | exact k_ii | exact k_bi | exact k_ni | exact k_ib | exact k_bb | exact TyX.base (TyOf.lst (by assumption)) | exact k_ll | exact k_lt)
local macro_rules | `(tactic| walk_at "p") => `(tactic| repeat (first | refine And.intro (by walk_at "side") ?_ | apply Exists.intro | refine iteN (by assumption) ?_ | refine iteP (by assumption) ?_ | refine iteN (by decide) ?_ | refine iteP (by decide) ?_))

/-- a book of forms without lines -/
def BookAt (CB CF : Addr) (H : Hp) (p : Addr) (n r : Nat) (F : List FM) : Prop := ∃ dx ft nd tx, H p = some (.ins CB dx (bookF n r ft nd tx)) ∧ FormsAt CF H ft F
theorem FormsAt.news {C : Addr} {H H' : Hp} {t : Addr} {F : List FM} (h : FormsAt C H t F) (s : Same H H') : FormsAt C H' t F := h.nl (NL.of s)
theorem BookAt.news {CB CF : Addr} {H H' : Hp} {p : Addr} {n r : Nat} {F : List FM} (h : BookAt CB CF H p n r F) (s : Same H H') : BookAt CB CF H' p n r F := by
  obtain ⟨dx, ft, nd, tx, h1, h2⟩ := h
  exact ⟨dx, ft, nd, tx, s _ _ h1, h2.news s⟩
theorem BookAt.nl {CB CF : Addr} {H H' : Hp} {p : Addr} {n r : Nat} {F : List FM} (h : BookAt CB CF H p n r F) (s : NL H H') : BookAt CB CF H' p n r F := by
  obtain ⟨dx, ft, nd, tx, h1, h2⟩ := h
  exact ⟨dx, ft, nd, tx, s _ _ h1 (fun xs z => by cases z), h2.nl s⟩
theorem FormsAt.np {C : Addr} {H H' : Hp} {t p : Addr} {F : List FM} (h : FormsAt C H t F) {D dx : Addr} {fs : List (Str × V)} (hp : H p = some (.ins D dx fs)) (hl : fs.length ≠ 8) (s : ∀ b o, H b = some o → b ≠ p → H' b = some o) : FormsAt C H' t F := by
  have st : ∀ b xs, H b = some (.tup xs) → H' b = some (.tup xs) := fun b xs e => s b _ e fun z => by rw [z, hp] at e; cases e
  obtain ⟨us, h1, h2⟩ := h
  refine ⟨us, st _ _ h1, h2.map fun u q _ r => ?_⟩
  obtain ⟨dx, pt, ln, lt, fx, h⟩ := r
  obtain ⟨ls, l1, l2⟩ := h.lt
  obtain ⟨xs, x1, x2⟩ := h.fx
  refine ⟨dx, pt, ln, lt, fx, s _ _ h.o fun z => ?_, st _ _ h.pt, st _ _ h.ln, ⟨ls, st _ _ l1, l2.map fun _ _ _ r => st _ _ r⟩, ⟨xs, st _ _ x1, x2.map fun _ _ _ r => st _ _ r⟩⟩
  have := h.o
  rw [z, hp] at this
  cases this
  exact hl rfl
section
variable {P : Program} {w : World} {K : PySem.W.Frag} {mg : Str → Option Value} {base : Heap}
def sp_Book_init (T : Txt K mg) : Sp := fun vs H Q _ => ∃ (p dx a : Addr) (ts : List V) (F : List FM) (n r : Nat), vs = [.ref p, .int (n : Nat), .int (r : Nat), .ref a] ∧ H p = some (.ins T.C_Book dx []) ∧ H a = some (.lst ts) ∧ Refs H ts F RowP ∧ BookOk n r F ∧
  ∀ H', (∀ b o, H b = some o → b ≠ p → H' b = some o) → BookAt T.C_Book T.C_Form H' p n r F → Q .non H'
theorem sp_Book_init_len {T : Txt K mg} {vs H Q E} (h : sp_Book_init T vs H Q E) : vs.length = 4 := by obtain ⟨_, _, _, _, _, _, _, rfl, _⟩ := h; rfl
theorem ok_Book_init (T : Txt K mg) : FnOk P w K mg base CX0 5 T.f_Book_init T.fd_Book_init ["self", "word", "registers", "forms"] (sp_Book_init T) := by
  have G_checked_forms := ok_checked_forms (P := P) (w := w) (base := base) T; have G_written := ok_written (P := P) (w := w) (base := base) T; have G_check_int := ok_check_int (P := P) (w := w) (base := base) T
  refine T.F_Book_init.ok sc_Book_init (fun vs H Q E h => sp_Book_init_len h) (fun cdv A outer s H vs Q E hr h => ?_)
  obtain ⟨p, dx, a, ts, F, n, r, rfl, hp, ha, hR, hB, k⟩ := h
  refine ⟨_, (pss_cons (ps_fld (pv 0) (pe_call G_check_int (hr.mono (by decide)) rfl T.g_check_int T.F_check_int.kp T.b_check_int .nil pass0 (pa_cons (pv 1) (pa_cons pe_int (pa_cons pe_int (pa_cons pe_str pa_nil))))) rfl)
       (pss_cons (ps_fld (pv 0) (pe_call G_check_int (hr.mono (by decide)) rfl T.g_check_int T.F_check_int.kp T.b_check_int .nil pass0 (pa_cons (pv 2) (pa_cons pe_int (pa_cons pe_int (pa_cons pe_str pa_nil))))) rfl)
       (pss_cons (ps_fld (pv 0) (pe_call G_checked_forms hr rfl T.g_checked_forms T.F_checked_forms.kp T.b_checked_forms .nil pass0 (pa_cons (pv 1) (pa_cons (pv 2) (pa_cons (pv 3) pa_nil)))) rfl)
       (pss_cons (ps_fld (pv 0) (pe_dc (own := [("form", 4)]) rfl sc_Book_init.nd (pi_tup (pe_fldA (pv 0))) (blkOk_by (N := ["self", "word", "registers", "forms", "form"]) (sc := defScope s_Book_init) (by decide +kernel)) (fun _ _ _ _ _ => by (apply pg_tr; exact pg_name (i := 4) sc_Book_init.nd rfl (Or.inl rfl); (try dsimp only [Cx.blk]) <;> exact rfl)) (fun _ _ _ _ _ => by (apply pts_tr; exact pts_nil; (try dsimp only [Cx.blk]) <;> exact rfl)) (fun _ _ _ _ _ => by (apply pe_tr; exact (pe_fldA (pv 4)); (try dsimp only [Cx.blk]) <;> exact rfl)) (fun _ _ _ _ _ => by (apply pe_tr; exact (pv 4); (try dsimp only [Cx.blk]) <;> exact rfl))) rfl)
       (pss_one (ps_fld (pv 0) (pe_call G_written (hr.mono (by decide)) rfl T.g_written T.F_written.kp T.b_written .nil pass0 (pa_cons (pv 0) pa_nil)) rfl)))))), ?_⟩
  have n8 := hB.n8
  have n4 := hB.n4
  have r1 := hB.r1
  have r4 := hB.r4
  have b32 := hB.f32
  have sz : sizeLine = 16777216 := sizeLine_eq
  refine ⟨_, rfl, _, _, _, _, rfl, by omega, by omega, ?_⟩
  refine ⟨_, rfl, p, T.C_Book, dx, _, rfl, hp, T.cl_Book, T.nA_Book_word, by decide, ?_⟩
  rw [put_book_0]
  refine ⟨_, rfl, _, _, _, _, rfl, by omega, by omega, ?_⟩
  refine ⟨_, rfl, p, T.C_Book, dx, _, rfl, upd_same, T.cl_Book, T.nA_Book_registers, by show 1 < 1000; decide, ?_⟩
  rw [put_book_1]
  have k2 : ∀ b o, H b = some o → b ≠ p → upd (upd H p (.ins T.C_Book dx [("word", .int (n : Nat))])) p (.ins T.C_Book dx [("word", .int (n : Nat)), ("registers", .int (r : Nat))]) b = some o := fun b o e hb => by rw [upd_ne hb, upd_ne hb]; exact e
  have p2 : upd (upd H p (.ins T.C_Book dx [("word", .int (n : Nat))])) p (.ins T.C_Book dx [("word", .int (n : Nat)), ("registers", .int (r : Nat))]) p = some (.ins T.C_Book dx [("word", .int (n : Nat)), ("registers", .int (r : Nat))]) := upd_same
  generalize upd (upd H p (.ins T.C_Book dx [("word", .int (n : Nat))])) p (.ins T.C_Book dx [("word", .int (n : Nat)), ("registers", .int (r : Nat))]) = H2 at k2 p2 ⊢
  have nl : ∀ b xs, H b = some (.lst xs) → H2 b = some (.lst xs) := fun b xs e => k2 _ _ e fun z => by rw [z, hp] at e; cases e
  have nt : ∀ b xs, H b = some (.tup xs) → H2 b = some (.tup xs) := fun b xs e => k2 _ _ e fun z => by rw [z, hp] at e; cases e
  refine ⟨_, rfl, _, rfl, _, rfl, a, ts, F, n, r, rfl, nl _ _ ha, hR.map fun u f _ ⟨pa, la, h1, h2, h3⟩ => ⟨pa, la, nt _ _ h1, nl _ _ h2, nl _ _ h3⟩, hB, fun H3 ft s3 hF => ?_⟩
  have p3 := s3 _ _ p2
  refine ⟨_, rfl, p, T.C_Book, dx, _, rfl, p3, T.cl_Book, T.nA_Book_forms, by show 2 < 1000; decide, ?_⟩
  rw [put_book_2]
  have k4 : ∀ b o, H3 b = some o → b ≠ p → upd H3 p (.ins T.C_Book dx [("word", .int (n : Nat)), ("registers", .int (r : Nat)), ("forms", .ref ft)]) b = some o := fun b o e hb => by rw [upd_ne hb]; exact e
  have F4 := hF.np p3 (by show 2 ≠ 8; decide) k4
  have p4 : upd H3 p (.ins T.C_Book dx [("word", .int (n : Nat)), ("registers", .int (r : Nat)), ("forms", .ref ft)]) p = some (.ins T.C_Book dx [("word", .int (n : Nat)), ("registers", .int (r : Nat)), ("forms", .ref ft)]) := upd_same
  generalize upd H3 p (.ins T.C_Book dx [("word", .int (n : Nat)), ("registers", .int (r : Nat)), ("forms", .ref ft)]) = H4 at k4 p4 F4 ⊢
  have F4' := F4
  obtain ⟨us, hus, hRu⟩ := F4'
  have hul := hRu.1
  refine ⟨_, rfl, p, T.C_Book, dx, _, _, rfl, p4, T.cl_Book, T.nA_Book_forms, by rw [lk, if_neg (by decide +kernel), lk, if_neg (by decide +kernel), lk, if_pos rfl], ft, rfl, ⟨_, SqT.of hus⟩, fun D hD => ?_⟩
  refine dc_it (walk_tup (xs := us)) (fun i H5 => Same H4 H5 ∧ ∃ kvs, H5 D = some (.dK kvs) ∧ kvs.length ≤ i) ⟨same_new hD, _, upd_same, Nat.le_refl _⟩ (fun i H5 _ ⟨s5, _⟩ => SqT.of (s5 _ _ hus)) ?_ ?_
  · rintro i x H5 H6 hi ⟨s5, kvs, h5, l5⟩ ⟨rfl, hx⟩
    obtain ⟨u, f, hf, hu, hP⟩ := hRu.at (i := i) (by omega)
    rw [hu] at hx
    cases hx
    obtain ⟨fdx, fpt, fln, flt, ffx, hf6⟩ := hP.news s5
    refine ⟨rfl, _, rfl, u, T.C_Form, fdx, _, _, rfl, hf6.o, T.cl_Form, T.nA_Form_name, look_form_name .., _, rfl, kvs, .inr f.nm, rfl, h5, by omega, fun b o e => ?_, _, upd_same, ?_⟩
    · have bD : b ≠ D := fun z => by rw [z, hD] at e; cases e
      rw [upd_ne bD]; exact s5 _ _ e
    · have := length_putK kvs (.inr f.nm) (V.ref u); omega
  rintro H5 ⟨s5, kvs, h5, l5⟩
  have p5 := s5 _ _ p4
  refine ⟨_, rfl, p, T.C_Book, dx, _, rfl, p5, T.cl_Book, T.nA_Book__named, by show 3 < 1000; decide, ?_⟩
  rw [put_book_3]
  have k6 : ∀ b o, H5 b = some o → b ≠ p → upd H5 p (.ins T.C_Book dx (book4 n r ft D)) b = some o := fun b o e hb => by rw [upd_ne hb]; exact e
  have F6 := (F4.news s5).np p5 (by show 3 ≠ 8; decide) k6
  have p6 : upd H5 p (.ins T.C_Book dx (book4 n r ft D)) p = some (.ins T.C_Book dx (book4 n r ft D)) := upd_same
  refine ⟨_, rfl, p, dx, ft, D, F, n, r, rfl, p6, F6, hB, fun H7 tx s7 => ?_⟩
  have p7 := s7 _ _ p6
  refine ⟨_, rfl, p, T.C_Book, dx, _, rfl, p7, T.cl_Book, T.nA_Book__text, by show 4 < 1000; decide, ?_⟩
  unfold book4
  rw [put_book_4]
  have k8 : ∀ b o, H7 b = some o → b ≠ p → upd H7 p (.ins T.C_Book dx (bookF n r ft D tx)) b = some o := fun b o e hb => by rw [upd_ne hb]; exact e
  refine k _ (fun b o e hb => ?_) ⟨dx, ft, D, tx, upd_same, (F6.news s7).np p7 (by show 4 ≠ 8; decide) k8⟩
  exact k8 _ _ (s7 _ _ (k6 _ _ (s5 _ _ (k4 _ _ (s3 _ _ (k2 _ _ e hb)) hb)) hb)) hb
end
end My

/-! J -/
namespace My
open PySem L2
local macro_rules | `(tactic| walk_at "side") => `(tactic| first | with_reducible rfl | assumption | rfl | decide | omega | exact cpow1 (by omega) (by omega) | exact cdiv (by omega) (by omega) | exact two_pos _ | exact SqL.of (by assumption) | exact SqT.of (by assumption) | exact TyX.base (TyOf.int _) | exact TyX.base (TyOf.bl _) | exact TyX.base TyOf.non | exact scal_opt _ _ | exact k_ii | exact k_bi | exact k_ni | exact k_ib | exact k_bb | exact TyX.base (TyOf.lst (by assumption)) | exact k_ll | exact k_lt)
local macro_rules | `(tactic| walk_at "p") => `(tactic| repeat (first | refine And.intro (by walk_at "side") ?_ | apply Exists.intro | refine iteN (by assumption) ?_ | refine iteP (by assumption) ?_ | refine iteN (by decide) ?_ | refine iteP (by decide) ?_))

section
variable {P : Program} {w : World} {K : PySem.W.Frag} {mg : Str → Option Value} {base : Heap}
/-- the lowest m bits, the highest first, as signs -/
def digL (c : Nat) : Nat → List Nat
  | 0 => []
  | m + 1 => (48 + c / 2 ^ m % 2) :: digL c m
theorem digL_rg (c : Nat) : ∀ m, (List.range m).map (fun j => 48 + c / 2 ^ (m - 1 - j) % 2) = digL c m
  | 0 => rfl
  | m + 1 => by
    rw [digL, ← digL_rg c m, List.range_succ_eq_map, List.map_cons, List.map_map]
    congr 1
    refine List.map_congr_left fun j hj => ?_
    show 48 + c / 2 ^ (m + 1 - 1 - (j + 1)) % 2 = _
    rw [show m + 1 - 1 - (j + 1) = m - 1 - j by omega]
theorem and_natJ (a b : Nat) : Builtin.bitAnd (a : Int) (b : Int) = ((a &&& b : Nat) : Int) := by simp [Builtin.bitAnd]
theorem shr_and (c k : Nat) : Builtin.bitAnd ((c : Int) / 2 ^ k) 1 = ((c / 2 ^ k % 2 : Nat) : Int) := by
  have e : (c : Int) / 2 ^ k = ((c / 2 ^ k : Nat) : Int) := by rw [Int.natCast_ediv, Int.natCast_pow]; rfl
  rw [e]
  rw [← Nat.and_one_is_mod]
  exact and_natJ _ 1
theorem str_dig (b : Nat) (h : b < 2) : Str.ofString (toString (b : Int)) = sg (48 + b) := by
  have : b = 0 ∨ b = 1 := by omega
  rcases this with rfl | rfl <;> decide
theorem flat1 (f : Nat → Nat) : ∀ l : List Nat, ((l.map fun j => sg (f j)).map fun z => z.cps.toList).flatten = l.map f
  | [] => rfl
  | x :: r => by
    rw [List.map_cons, List.map_cons, List.flatten_cons, flat1 f r]
    rfl
theorem str_ext {a b : Str} (h : a.cps.toList = b.cps.toList) : a = b := by
  cases a; cases b
  congr 1
  exact Array.toList_inj.mp h
theorem digL_len (c : Nat) : ∀ m, (digL c m).length = m
  | 0 => rfl
  | m + 1 => by rw [digL, List.length_cons, digL_len c m]
theorem bitsOf_len : ∀ (p : List Nat) (c : Nat), (bitsOf p c).length = p.length
  | [], _ => rfl
  | s :: r, c => by rw [bitsOf, List.length_cons, bitsOf_len r c, List.length_cons]
theorem bits_at : ∀ (p : List Nat) (c i : Nat) (q : Nat × Nat), (bitsOf p c)[i]? = some q → p.getD i 0 = q.1 ∧ (digL c p.length).getD i 0 = 48 + q.2 ∧ i < p.length
  | [], _, _, _, h => by simp [bitsOf] at h
  | s :: r, c, 0, q, h => by
    rw [bitsOf] at h
    cases h
    exact ⟨rfl, rfl, Nat.succ_pos _⟩
  | s :: r, c, i + 1, q, h => by
    rw [bitsOf] at h
    obtain ⟨a, b, d⟩ := bits_at r c i q h
    exact ⟨a, b, Nat.succ_lt_succ d⟩
/-- pairs of a sign and its bit -/
def BitAt (H : Hp) (u : Addr) (q : Nat × Nat) : Prop := H u = some (.tup [.str (sg q.1), .str (sg (48 + q.2))])
def BitsAt (H : Hp) (l : Addr) (bs : List (Nat × Nat)) : Prop := ∃ us, H l = some (.lst us) ∧ Refs H us bs BitAt
end
end My

/-! N -/
namespace My
open PySem L2
local macro_rules | `(tactic| walk_at "side") => `(tactic| first | with_reducible rfl | assumption | rfl | decide | omega | exact cpow1 (by omega) (by omega) | exact cdiv (by omega) (by omega) | exact two_pos _ | exact SqL.of (by assumption) | exact SqT.of (by assumption) | exact TyX.base (TyOf.int _) | exact TyX.base (TyOf.bl _) | exact TyX.base TyOf.non | exact scal_opt _ _ | exact k_ii | exact k_bi | exact k_ni | exact k_ib | exact k_bb | exact TyX.base (TyOf.lst (by assumption)) | exact k_ll | exact k_lt)
local macro_rules | `(tactic| walk_at "p") => `(tactic| repeat (first | refine And.intro (by walk_at "side") ?_ | apply Exists.intro | refine iteN (by assumption) ?_ | refine iteP (by assumption) ?_ | refine iteN (by decide) ?_ | refine iteP (by decide) ?_))

/-- numbers by letters -/
def dictV (L : List Nat) (g : Nat → Nat) : List (Key × V) := L.map fun c => ((.inr (sg c) : Key), V.int (g c : Nat))
theorem sg_inj {a b : Nat} : (Sum.inr (sg a) : Key) = .inr (sg b) ↔ a = b := by
  constructor
  · intro h
    have := Sum.inr.inj h
    unfold sg at this
    simpa using this
  · intro h; rw [h]
theorem dict_any (g : Nat → Nat) (s : Nat) : ∀ L : List Nat, ((dictV L g).any fun kv => decide (kv.1 = (.inr (sg s) : Key))) = decide (s ∈ L)
  | [] => rfl
  | c :: r => by
    have ih := dict_any g s r
    unfold dictV at ih ⊢
    rw [List.map_cons, List.any_cons, ih]
    by_cases h : c = s
    · subst h; simp
    · have h' : s ≠ c := fun e => h e.symm
      have : ¬ (Sum.inr (sg c) : Key) = .inr (sg s) := fun e => h (sg_inj.mp e)
      simp [h', this]
theorem dict_val (g : Nat → Nat) (s : Nat) : ∀ L : List Nat, valV (dictV L g) (.inr (sg s)) = if s ∈ L then some (V.int (g s : Nat)) else none
  | [] => rfl
  | c :: r => by
    have ih := dict_val g s r
    unfold valV dictV at ih ⊢
    rw [List.map_cons, List.find?_cons]
    by_cases h : c = s
    · subst h; simp
    · have h' : s ≠ c := fun e => h e.symm
      have : decide ((Sum.inr (sg c) : Key) = .inr (sg s)) = false := decide_eq_false fun e => h (sg_inj.mp e)
      simp only [this]
      rw [ih]
      simp [h']
theorem dict_put {L : List Nat} {g : Nat → Nat} {s v : Nat} (h : s ∈ L) : putK (dictV L g) (.inr (sg s)) (V.int (v : Nat)) = dictV L fun c => if c = s then v else g c := by
  unfold putK
  rw [dict_any, if_pos (decide_eq_true h)]
  unfold dictV
  rw [List.map_map]
  refine List.map_congr_left fun c hc => ?_
  show (if (Sum.inr (sg c) : Key) = .inr (sg s) then ((Sum.inr (sg c) : Key), V.int (v : Nat)) else ((Sum.inr (sg c) : Key), V.int (g c : Nat))) = ((Sum.inr (sg c) : Key), V.int ((if c = s then v else g c : Nat) : Nat))
  by_cases e : c = s
  · subst e; rw [if_pos rfl, if_pos rfl]
  · rw [if_neg fun z => e (sg_inj.mp z), if_neg e]
theorem dict_new {L : List Nat} {g : Nat → Nat} {s : Nat} (h : ¬ s ∈ L) : putK (dictV L g) (.inr (sg s)) (V.int (g s : Nat)) = dictV (L ++ [s]) g := by
  unfold putK
  rw [dict_any, if_neg (by simp [h])]
  unfold dictV
  rw [List.map_append]; rfl
theorem dict_congr {L : List Nat} {g g' : Nat → Nat} (h : ∀ c ∈ L, g c = g' c) : dictV L g = dictV L g' := List.map_congr_left fun c hc => by rw [h c hc]
theorem numL_snoc (l : Nat) (bs : List (Nat × Nat)) (q : Nat × Nat) : numL l (bs ++ [q]) = numStep l (numL l bs) q := by unfold numL; rw [List.foldl_append]; rfl
theorem bitsOf_lt : ∀ (p : List Nat) (c : Nat), ∀ q ∈ bitsOf p c, q.2 < 2
  | [], _, _, h => by cases h
  | s :: r, c, q, h => by
    rw [bitsOf] at h
    rcases List.mem_cons.mp h with rfl | h
    · exact Nat.mod_lt _ (by decide)
    · exact bitsOf_lt r c q h
theorem letters_nd (ps : List (List Nat)) : ((lettersM ps).map Prod.fst).Nodup := by
  unfold lettersM
  rw [List.map_map]
  have : (Prod.fst ∘ fun c => (c, List.count c ps.flatten)) = (id : Nat → Nat) := rfl
  rw [this, List.map_id]
  exact List.Pairwise.filter _ (by decide : lettersN.Nodup)
section
variable {P : Program} {w : World} {K : PySem.W.Frag} {mg : Str → Option Value} {base : Heap}
def natsV (xs : List Nat) : List V := xs.map fun x => V.int (x : Nat)
end
end My

/-! O -/
namespace My
open PySem L2
local macro_rules | `(tactic| walk_at "side") => `(tactic| first | with_reducible rfl | assumption | rfl | decide | omega | exact cpow1 (by omega) (by omega) | exact cdiv (by omega) (by omega) | exact two_pos _ | exact SqL.of (by assumption) | exact SqT.of (by assumption) | exact TyX.base (TyOf.int _) | exact TyX.base (TyOf.bl _) | exact TyX.base TyOf.non | exact scal_opt _ _ | exact k_ii | exact k_bi | exact k_ni | exact k_ib | exact k_bb | exact TyX.base (TyOf.lst (by assumption)) | exact k_ll | exact k_lt)
local macro_rules | `(tactic| walk_at "p") => `(tactic| repeat (first | refine And.intro (by walk_at "side") ?_ | apply Exists.intro | refine iteN (by assumption) ?_ | refine iteP (by assumption) ?_ | refine iteN (by decide) ?_ | refine iteP (by decide) ?_))

theorem look_form_may (nm : Str) (pt ln : Addr) (k : Nat) (lt fx : Addr) : (formF nm pt ln k lt fx).lookup ("may_begin" : Str) = none := by
  unfold formF
  rw [lk, if_neg (by decide +kernel), lk, if_neg (by decide +kernel), lk, if_neg (by decide +kernel), lk, if_neg (by decide +kernel), lk, if_neg (by decide +kernel), lk, if_neg (by decide +kernel), lk, if_neg (by decide +kernel), lk, if_neg (by decide +kernel)]
  rfl
def fitsAt (cs : List Nat) (f : FM) : Bool := f.ps.length == cs.length && mayB f.pl cs
theorem formAt_eq (F : List FM) (cs : List Nat) : formAt F cs = F.find? (fitsAt cs) := rfl
theorem find_take {α : Type} {p : α → Bool} {F : List α} {i : Nat} {f : α} (hf : F[i]? = some f) (h : (F.take i).find? p = none) (hp : p f = true) : F.find? p = some f := by
  have hi := (List.getElem?_eq_some_iff.mp hf).1
  have e : F = F.take i ++ F.drop i := (List.take_append_drop i F).symm
  rw [e, List.find?_append, h, List.drop_eq_getElem_cons hi, (List.getElem?_eq_some_iff.mp hf).2, List.find?_cons, hp]
  rfl
section
variable {P : Program} {w : World} {K : PySem.W.Frag} {mg : Str → Option Value} {base : Heap}
end
end My

/-! U -/
namespace My
open PySem L2
local macro_rules | `(tactic| walk_at "side") => `(tactic| first | with_reducible rfl | assumption | rfl | decide | omega | exact cpow1 (by omega) (by omega) | exact cdiv (by omega) (by omega) | exact two_pos _ | exact SqL.of (by assumption) | exact SqT.of (by assumption) | exact TyX.base (TyOf.int _) | exact TyX.base (TyOf.bl _) | exact TyX.base TyOf.non | exact scal_opt _ _ | exact k_ii | exact k_bi | exact k_ni | exact k_ib | exact k_bb | exact TyX.base (TyOf.lst (by assumption)) | exact k_ll | exact k_lt)
local macro_rules | `(tactic| walk_at "p") => `(tactic| repeat (first | refine And.intro (by walk_at "side") ?_ | apply Exists.intro | refine iteN (by assumption) ?_ | refine iteP (by assumption) ?_ | refine iteN (by decide) ?_ | refine iteP (by decide) ?_))

/-- the word that a cell is -/
def cellW (n : Nat) : Option V → Option Nat
  | some (.int i) => if 0 ≤ i ∧ i < 2 ^ n then some i.toNat else none
  | _ => none
/-- the looks at the cells: the form (or none) or, of a refused one, nothing; the cells looked at -/
def decX (F : List FM) (n : Nat) (xs : List V) : Nat → List Nat → Option (Option FM) × List Nat
  | 0, L => (some none, L)
  | k + 1, L => match cellW n xs[L.length]? with
    | none => (none, L)
    | some c => match formAt F (L ++ [c]) with
      | some f => (some (some f), L ++ [c])
      | none => if goesM F (L ++ [c]) = true then decX F n xs k (L ++ [c]) else (some none, L ++ [c])
section
variable {P : Program} {w : World} {K : PySem.W.Frag} {mg : Str → Option Value} {base : Heap}
end
end My

/-! W -/
namespace My
open PySem L2
local macro_rules | `(tactic| walk_at "side") => `(tactic| first | with_reducible rfl | assumption | rfl | decide | omega | exact cpow1 (by omega) (by omega) | exact cdiv (by omega) (by omega) | exact two_pos _ | exact SqL.of (by assumption) | exact SqT.of (by assumption) | exact TyX.base (TyOf.int _) | exact TyX.base (TyOf.bl _) | exact TyX.base TyOf.non | exact scal_opt _ _ | exact k_ii | exact k_bi | exact k_ni | exact k_ib | exact k_bb | exact TyX.base (TyOf.lst (by assumption)) | exact k_ll | exact k_lt)
local macro_rules | `(tactic| walk_at "p") => `(tactic| repeat (first | refine And.intro (by walk_at "side") ?_ | apply Exists.intro | refine iteN (by assumption) ?_ | refine iteP (by assumption) ?_ | refine iteN (by decide) ?_ | refine iteP (by decide) ?_))

theorem natsV_len (L : List Nat) : (natsV L).length = L.length := by unfold natsV; rw [List.length_map]
theorem natsV_snoc (L : List Nat) (c : Nat) : natsV L ++ [V.int (c : Nat)] = natsV (L ++ [c]) := by unfold natsV; rw [List.map_append]; rfl
def decW (p ca l : Addr) (F : List FM) (n : Nat) (xs : List V) (H : Hp) (m : Nat) (σ : St) (H3 : Hp) : Prop := 1 ≤ m ∧ ∃ L : List Nat, L.length + m = 3 ∧ Same H H3 ∧ H3 l = some (.lst (natsV L)) ∧ decX F n xs m L = decX F n xs 3 [] ∧ ∃ v3 : Option V, σ = [some (.ref p), some (.ref ca), some (.ref l), v3]
theorem goesM_lt {F : List FM} {n r : Nat} (h : BookOk n r F) {L : List Nat} (g : goesM F L = true) : L.length < 3 := by
  unfold goesM at g
  obtain ⟨f, hf, e⟩ := List.any_eq_true.mp g
  have := of_decide_eq_true (Bool.and_eq_true _ _ ▸ e).1
  have := (h.ps f hf).l3
  omega
section
variable {P : Program} {w : World} {K : PySem.W.Frag} {mg : Str → Option Value} {base : Heap}
/-- what decoded gives -/
def DecAt (H : Hp) (t : Addr) (o : Option FM) (L : List Nat) : Prop :=
  match o with
  | none => H t = some (.tup [.non, .int (L.length : Nat)])
  | some f => ∃ u v, H t = some (.tup [.ref u, .int (L.length : Nat)]) ∧ H u = some (.tup [.str f.nm, .ref v]) ∧ H v = some (.tup (natsV (numsM f.pl L)))
end
end My

/-! LA -/
namespace My
open PySem L2
local macro_rules | `(tactic| walk_at "side") => `(tactic| first | with_reducible rfl | assumption | rfl | decide | omega | exact cpow1 (by omega) (by omega) | exact cdiv (by omega) (by omega) | exact two_pos _ | exact SqL.of (by assumption) | exact SqT.of (by assumption) | exact TyX.base (TyOf.int _) | exact TyX.base (TyOf.bl _) | exact TyX.base TyOf.non | exact scal_opt _ _ | exact k_ii | exact k_bi | exact k_ni | exact k_ib | exact k_bb | exact TyX.base (TyOf.lst (by assumption)) | exact k_ll | exact k_lt)
local macro_rules | `(tactic| walk_at "p") => `(tactic| repeat (first | refine And.intro (by walk_at "side") ?_ | apply Exists.intro | refine iteN (by assumption) ?_ | refine iteP (by assumption) ?_ | refine iteN (by decide) ?_ | refine iteP (by decide) ?_))

/-- the draws at p, their numbers at q -/
def Dr (H : Hp) (p q : Addr) : Prop := ∃ (ns : List Int) (k : Nat), H p = some (.lst [.int k, .ref q]) ∧ H q = some (.lst (ns.map V.int)) ∧ ∀ x ∈ ns, 0 ≤ x
theorem Dr.ne {H : Hp} {p q : Addr} (h : Dr H p q) (hpq : p ≠ q) : True := trivial
theorem Dr.keep {S : Addr → Prop} {H H' : Hp} {p q : Addr} (h : Dr H p q) (k : Keep S H H') (hp : ¬ S p) (hq : ¬ S q) : Dr H' p q := by
  obtain ⟨ns, j, h1, h2, h3⟩ := h
  exact ⟨ns, j, k _ _ h1 hp, k _ _ h2 hq, h3⟩
theorem Dr.news {H H' : Hp} {p q : Addr} (h : Dr H p q) (s : Same H H') : Dr H' p q := h.keep (S := fun _ => False) (fun b o e _ => s b o e) id id
section
variable {P : Program} {w : World} {K : PySem.W.Frag} {mg : Str → Option Value} {base : Heap}
def sp_law_take (T : Txt K mg) : Sp := fun vs H Q _ => ∃ (p q : Addr) (m : Int), vs = [.ref p, .int m] ∧ Dr H p q ∧ p ≠ q ∧ 0 < m ∧ ∀ (H' : Hp) (v : Int), 0 ≤ v → v < m → Dr H' p q → (∀ b o, H b = some o → b ≠ p → H' b = some o) → Q (.int v) H'
theorem sp_law_take_len {T : Txt K mg} {vs H Q E} (h : sp_law_take T vs H Q E) : vs.length = 2 := by obtain ⟨_, _, _, rfl, _⟩ := h; rfl
theorem ok_law_take (T : Txt K mg) : FnOk P w K mg base CX0 1 T.f_law_take T.fd_law_take ["_law_draws_here", "_law_many"] (sp_law_take T) := by
  skip
  refine T.F_law_take.ok sc_law_take (fun vs H Q E h => sp_law_take_len h) (fun cdv A outer s H vs Q E hr h => ?_)
  obtain ⟨p, q, m, rfl, ⟨ns, j, h1, h2, h3⟩, hpq, hm, k⟩ := h
  refine ⟨_, (pss_cons (ps_set (i := 2) sc_law_take.nd rfl (Or.inl rfl) (pe_ix ix_list (pv 0) pe_int (fun _ _ => rfl)))
       (pss_cons (ps_if (pt_cmpR op_ge (pv 2) (pe_callB call_lenL (by rfl) T.n_len (by decide +kernel) (pa_cons (pe_ix ix_list (pv 0) pe_int (fun _ _ => rfl)) pa_nil)) (nomark _))
        (pss_one (ps_ret pe_int))
        pss_nil)
       (pss_cons (ps_asg (pe_op op_add (pv 2) pe_int) (pg_sub (pv 0) pe_int set_list))
       (pss_one (ps_ret (pe_op op_mod (pe_callTy call_intI (by rfl) T.n_int (by decide +kernel) (pa_cons (pe_ix ix_list (pe_ix ix_list (pv 0) pe_int (fun _ _ => rfl)) (pv 2) (fun _ _ => rfl)) pa_nil)) (pv 1))))))), ?_⟩
  refine ⟨_, rfl, p, _, 0, _, rfl, rfl, SqL.of h1, rfl, ?_⟩
  refine ⟨_, rfl, _, rfl, p, _, 1, _, rfl, rfl, SqL.of h1, rfl, q, _, rfl, SqL.of h2, _, _, rfl, rfl, _, rfl, ?_⟩
  by_cases hj : ns.length ≤ j
  · exact iteP (dT (by rw [List.length_map]; omega)) (k H 0 (by omega) hm ⟨ns, j, h1, h2, h3⟩ fun b o e _ => e)
  refine iteN (dF (by rw [List.length_map]; omega)) ?_
  refine ⟨_, rfl, _, _, rfl, rfl, _, rfl, p, _, 0, 0, rfl, rfl, h1, rfl, ?_⟩
  have h1' : upd H p (.lst [.int ((j : Int) + 1), .ref q]) p = some (.lst [.int ((j : Int) + 1), .ref q]) := upd_same
  have h2' : upd H p (.lst [.int ((j : Int) + 1), .ref q]) q = some (.lst (ns.map V.int)) := by rw [upd_ne hpq.symm]; exact h2
  obtain ⟨x, hx⟩ : ∃ x, ns[j]? = some x := ⟨_, List.getElem?_eq_getElem (by omega)⟩
  refine ⟨_, rfl, p, _, 1, _, rfl, rfl, SqL.of h1', rfl, _, rfl, q, _, _, .int x, rfl, rfl, SqL.of h2', at_of rfl (by rw [List.getElem?_map, hx]; rfl), x, rfl, _, rfl, _, _, rfl, rfl, hm, ?_⟩
  refine k _ (x % m) (Int.emod_nonneg _ (by omega)) (Int.emod_lt_of_pos _ hm) ⟨ns, j + 1, ?_, h2', h3⟩ fun b o e hb => by rw [upd_ne hb]; exact e
  exact upd_same.trans rfl
theorem pow_posK (n : Nat) : (0 : Int) < 2 ^ n := Int.pow_pos (by decide)
theorem shl_mod {x : Int} {n : Nat} {C : Int → Prop} (h : ∀ v, 0 ≤ v → v < 2 ^ n → C v) : C (x % (1 * 2 ^ (n : Int).toNat)) := by
  rw [Int.one_mul, Int.toNat_natCast]
  exact h _ (Int.emod_nonneg _ (by have := pow_posK n; omega)) (Int.emod_lt_of_pos _ (pow_posK n))
def sp_law_draws (T : Txt K mg) : Sp := fun vs H Q _ => ∃ (a : Addr) (xs : List Int), vs = [.ref a] ∧ SqL K H a (xs.map V.int) ∧ xs.length ≤ 63 ∧ ∀ (H' : Hp) (p q : Addr), Same H H' → H p = none → H q = none → p ≠ q → Dr H' p q → Q (.ref p) H'
theorem sp_law_draws_len {T : Txt K mg} {vs H Q E} (h : sp_law_draws T vs H Q E) : vs.length = 1 := by obtain ⟨_, _, rfl, _⟩ := h; rfl
/-- numbers so far -/
def NumsAt (H0 H : Hp) (N : Addr) (m : Nat) : Prop := Same H0 H ∧ ∃ ns : List Int, H N = some (.lst (ns.map V.int)) ∧ ns.length ≤ m ∧ ∀ x ∈ ns, 0 ≤ x
theorem NumsAt.more {H0 H : Hp} {N : Addr} {m m' : Nat} (h : NumsAt H0 H N m) (l : m ≤ m') : NumsAt H0 H N m' := by
  obtain ⟨s, ns, h1, h2, h3⟩ := h
  exact ⟨s, ns, h1, by omega, h3⟩
theorem NumsAt.push {H0 H : Hp} {N : Addr} {m : Nat} {x : Int} (h0 : H0 N = none) (h : NumsAt H0 H N m) (hx : 0 ≤ x) : ∃ xs : List V, H N = some (.lst xs) ∧ xs.length ≤ m ∧ NumsAt H0 (upd H N (.lst (xs ++ [.int x]))) N (m + 1) := by
  obtain ⟨s, ns, h1, h2, h3⟩ := h
  refine ⟨_, h1, by rw [List.length_map]; exact h2, fun b o e => ?_, ns ++ [x], by rw [upd_same, List.map_append]; rfl, by simp; omega, fun z hz => ?_⟩
  · rw [upd_ne (ne_of_none e h0)]; exact s _ _ e
  · rcases List.mem_append.mp hz with hz | hz
    · exact h3 z hz
    · simp at hz; subst hz; exact hx
theorem ok_law_draws (T : Txt K mg) : FnOk P w K mg base CX0 1 T.f_law_draws T.fd_law_draws ["_law_script"] (sp_law_draws T) := by
  skip
  refine T.F_law_draws.ok sc_law_draws (fun vs H Q E h => sp_law_draws_len h) (fun cdv A outer s H vs Q E hr h => ?_)
  obtain ⟨a, xs, rfl, hx, h63, k⟩ := h
  refine ⟨_, (pss_cons (ps_set (i := 1) sc_law_draws.nd rfl (Or.inl rfl) (pe_lst pa_nil))
       (pss_cons (ps_for PassesOwn.never rfl (pi_range1 (by rfl) T.n_range (pa_cons (pe_callB (call_min2 rfl) (by rfl) T.n_min (by decide +kernel) (pa_cons (pe_callB call_lenL (by rfl) T.n_len (by decide +kernel) (pa_cons (pv 0) pa_nil)) (pa_cons pe_int pa_nil))) pa_nil)) (pg_name (i := 2) sc_law_draws.nd rfl (Or.inl rfl))
        (pss_cons (ps_set (i := 3) sc_law_draws.nd rfl (Or.inl rfl) (pe_callTy call_intI (by rfl) T.n_int (by decide +kernel) (pa_cons (pe_ix ix_list (pv 0) (pv 2) (fun _ _ => rfl)) pa_nil)))
       (pss_cons (ps_set (i := 4) sc_law_draws.nd rfl (Or.inl rfl) pe_int)
       (Evl.pss_cut (ps_if (pt_cmpR op_lt (pv 3) pe_int (nomark _))
        (pss_cons (ps_set (i := 4) sc_law_draws.nd rfl (Or.inl rfl) pe_int)
       (pss_one (ps_set (i := 3) sc_law_draws.nd rfl (Or.inl rfl) (pe_un un_neg (pv 3)))))
        pss_nil)
       (pss_one (ps_if (pt_cmpR op_ge (pv 3) (pe_op op_pow pe_int pe_int) (nomark _))
        (pss_one (ps_for PassesOwn.never rfl (pi_range1 (by rfl) T.n_range (pa_cons pe_int pa_nil)) (pg_name (i := 5) sc_law_draws.nd rfl (Or.inl rfl))
        (pss_one (ps_if (pt_cmpR op_gt (pv 3) pe_int (nomark _))
        (pss_cons (ps_expr (pe_bm PySem.F.plainAttrs_list PySem.F.slot_list_append PySem.F.type_list_append mt_append (pv 1) (pa_cons (pe_op op_mod (pe_callTy call_intI (by rfl) T.n_int (by decide +kernel) (pa_cons (pv 3) pa_nil)) pe_int) pa_nil)))
       (pss_one (ps_set (i := 3) sc_law_draws.nd rfl (Or.inl rfl) (pe_op op_fdiv (pv 3) pe_int))))
        pss_nil))))
        (pss_cons (ps_set (i := 6) sc_law_draws.nd rfl (Or.inl rfl) (pe_op op_mod (pe_callTy call_intI (by rfl) T.n_int (by decide +kernel) (pa_cons (pe_op op_add (pe_op op_add (pe_op op_add (pe_op op_mul (pv 3) pe_int) (pe_op op_mul (pv 4) pe_int)) (pe_op op_mul (pv 2) pe_int)) pe_int) pa_nil)) pe_int))
       (pss_one (ps_for PassesOwn.never rfl (pi_range1 (by rfl) T.n_range (pa_cons pe_int pa_nil)) (pg_name (i := 5) sc_law_draws.nd rfl (Or.inl rfl))
        (pss_cons (ps_set (i := 6) sc_law_draws.nd rfl (Or.inl rfl) (pe_op op_mod (pe_callTy call_intI (by rfl) T.n_int (by decide +kernel) (pa_cons (pe_op op_add (pe_op op_add (pe_op op_mul (pv 6) pe_int) (pe_op op_fdiv (pv 6) pe_int)) (pv 5)) pa_nil)) pe_int))
       (pss_one (ps_expr (pe_bm PySem.F.plainAttrs_list PySem.F.slot_list_append PySem.F.type_list_append mt_append (pv 1) (pa_cons (pe_op op_fdiv (pv 6) pe_int) pa_nil))))))))))))))
       (pss_one (ps_ret (pe_lst (pa_cons pe_int (pa_cons (pv 1) pa_nil))))))), ?_⟩
  have sz : sizeLine = 16777216 := sizeLine_eq
  refine ⟨Nat.zero_le _, fun N hN => ?_⟩
  have sN := same_new (o := .lst []) hN
  have emin : (if (63 : Int) < ((xs.map V.int).length : Nat) then (63 : Int) else ((xs.map V.int).length : Nat)) = (xs.length : Nat) := by
    rw [List.length_map, if_neg (by omega)]
  refine ⟨_, rfl, a, _, rfl, sN.seq hx, _, _, rfl, ?_⟩
  rw [emin]
  refine ⟨_, rfl, by omega, by omega, ?_⟩
  refine for_range (lo := 0) (n := ((xs.length : Nat) : Int).toNat) (fun i σ' H1 => ∃ v2 v3 v4 v5 v6 : Option V, σ' = [some (.ref a), some (.ref N), v2, v3, v4, v5, v6] ∧ NumsAt H H1 N (45 * i)) ⟨none, none, none, none, none, rfl, sN, [], upd_same, Nat.le_refl _, by simp⟩ ?_ ?_
  · rintro i σ' H1 hi ⟨v2, v3, v4, v5, v6, rfl, hn⟩
    rw [Int.toNat_natCast] at hi
    obtain ⟨x, hxi⟩ : ∃ x, xs[i]? = some x := ⟨_, List.getElem?_eq_getElem hi⟩
    refine ⟨_, rfl, _, rfl, a, _, _, .int x, rfl, rfl, hn.1.seq hx, at_of (j := i) (by omega) (by rw [List.getElem?_map, hxi]; rfl), x, rfl, ?_⟩
    -- the sign
    refine ⟨fun σ' H2 => H2 = H1 ∧ ∃ c sg : Int, σ' = [some (.ref a), some (.ref N), some (.int (0 + i)), some (.int c), some (.int sg), v5, v6] ∧ 0 ≤ c ∧ 0 ≤ sg ∧ sg ≤ 1, ?_, ?_⟩
    · refine ⟨_, rfl, _, _, rfl, rfl, _, rfl, ite2d (fun hc => ?_) fun hc => ?_⟩
      · exact ⟨_, rfl, _, rfl, rfl, -x, 1, rfl, by omega, by omega, by omega⟩
      · exact ⟨rfl, x, 0, rfl, by omega, by omega, by omega⟩
    rintro σ' H2 ⟨rfl, c, sg, rfl, c0, g0, g1⟩
    refine ⟨_, rfl, _, _, rfl, rfl, cpow10, _, _, rfl, rfl, _, rfl, ite2d (fun hc => ?_) fun hc => ?_⟩
    · -- a great number: its digits
      refine ⟨45, rfl, by decide, by decide, ?_⟩
      refine for_range (lo := 0) (n := (45 : Int).toNat) (fun t σ' H3 => ∃ (c : Int) (v5 : Option V), σ' = [some (.ref a), some (.ref N), some (.int (0 + i)), some (.int c), some (.int sg), v5, v6] ∧ 0 ≤ c ∧ NumsAt H H3 N (45 * i + t)) ⟨c, v5, rfl, c0, hn⟩ ?_ ?_
      · rintro t σ' H3 ht ⟨c, v5, rfl, c0, hn⟩
        refine ⟨_, rfl, _, _, rfl, rfl, _, rfl, ite2d (fun hc => ?_) fun hc => ?_⟩
        · obtain ⟨ys, hy, hyl, hn2⟩ := hn.push (x := c % 30) hN (Int.emod_nonneg _ (by decide))
          have ht : t < 45 := ht
          refine ⟨_, rfl, .inl ⟨rfl, _, SqL.of hy⟩, _, rfl, _, rfl, _, _, rfl, rfl, by show (0 : Int) < 30; decide, N, _, _, rfl, rfl, hy, by omega, ?_⟩
          refine ⟨_, rfl, _, _, rfl, rfl, ⟨by decide, by decide⟩, ?_⟩
          exact ⟨_, _, rfl, Int.ediv_nonneg c0 (by decide), hn2⟩
        · exact ⟨c, _, rfl, c0, hn.more (by omega)⟩
      · rintro σ' H3 ⟨c, v5, rfl, c0, hn⟩
        exact ⟨_, _, _, _, _, rfl, hn.more (by show 45 * i + 45 ≤ 45 * (i + 1); omega)⟩
    · have hc : c < 1000000000000000000 := by
        have : ¬ (10 : Int) ^ (18 : Int).toNat ≤ c := hc
        have e : (10 : Int) ^ (18 : Int).toNat = 1000000000000000000 := by decide
        omega
      refine ⟨_, rfl, _, _, rfl, rfl, Or.inr (by constructor <;> decide), _, rfl, _, _, rfl, rfl, Or.inr (by constructor <;> decide), _, _, rfl, rfl, _, rfl, _, _, rfl, rfl, Or.inr (by constructor <;> decide), _, _, rfl, rfl, _, _, rfl, rfl, _, rfl, _, _, rfl, rfl, by show (0 : Int) < 2147483647; decide, ?_⟩
      have m0 : 0 ≤ (c * 16807 + sg * 911 + (0 + (i : Int)) * 7919 + 13) % 2147483647 ∧ (c * 16807 + sg * 911 + (0 + (i : Int)) * 7919 + 13) % 2147483647 < 2147483647 := ⟨Int.emod_nonneg _ (by decide), Int.emod_lt_of_pos _ (by decide)⟩
      refine ⟨6, rfl, by decide, by decide, ?_⟩
      refine for_range (lo := 0) (n := (6 : Int).toNat) (fun t σ' H3 => ∃ (mx : Int) (v5 : Option V), σ' = [some (.ref a), some (.ref N), some (.int (0 + i)), some (.int c), some (.int sg), v5, some (.int mx)] ∧ 0 ≤ mx ∧ mx < 2147483647 ∧ NumsAt H H3 N (45 * i + t)) ⟨_, v5, rfl, m0.1, m0.2, hn⟩ ?_ ?_
      · rintro t σ' H3 ht ⟨mx, v5, rfl, m0, m1, hn⟩
        have ht : t < 6 := ht
        refine ⟨_, rfl, _, _, rfl, rfl, Or.inr (by constructor <;> decide), _, rfl, _, _, rfl, rfl, ⟨by decide, by decide⟩, _, _, rfl, rfl, _, rfl, _, _, rfl, rfl, _, rfl, _, _, rfl, rfl, by show (0 : Int) < 2147483647; decide, ?_⟩
        have m2 : 0 ≤ (mx * 69621 + mx / 1000 + (0 + (t : Int))) % 2147483647 ∧ (mx * 69621 + mx / 1000 + (0 + (t : Int))) % 2147483647 < 2147483647 := ⟨Int.emod_nonneg _ (by decide), Int.emod_lt_of_pos _ (by decide)⟩
        obtain ⟨ys, hy, hyl, hn2⟩ := hn.push (x := (mx * 69621 + mx / 1000 + (0 + (t : Int))) % 2147483647 / 8) hN (Int.ediv_nonneg m2.1 (by decide))
        refine ⟨_, rfl, .inl ⟨rfl, _, SqL.of hy⟩, _, rfl, _, _, rfl, rfl, ⟨by decide, by decide⟩, N, _, _, rfl, rfl, hy, by omega, ?_⟩
        exact ⟨_, _, rfl, m2.1, m2.2, hn2⟩
      · rintro σ' H3 ⟨mx, v5, rfl, m0, m1, hn⟩
        exact ⟨_, _, _, _, _, rfl, hn.more (by show 45 * i + 6 ≤ 45 * (i + 1); omega)⟩
  · rintro σ' H1 ⟨v2, v3, v4, v5, v6, rfl, hn⟩
    obtain ⟨s1, ns, h1, _, h3⟩ := hn
    refine ⟨_, rfl, by show 2 ≤ sizeLine; decide, fun p hp => ?_⟩
    have pN : N ≠ p := ne_of_none h1 hp
    exact k _ p N (s1.trans (same_new hp)) (s1.free hp) hN pN.symm ⟨ns, 0, upd_same, by rw [upd_ne pN]; exact h1, h3⟩
end
end My

/-! LB -/
namespace My
open PySem L2
local macro_rules | `(tactic| walk_at "side") => `(tactic| first | with_reducible rfl | assumption | rfl | decide | omega | exact cpow1 (by omega) (by omega) | exact cdiv (by omega) (by omega) | exact two_pos _ | exact SqL.of (by assumption) | exact SqT.of (by assumption) | exact TyX.base (TyOf.int _) | exact TyX.base (TyOf.bl _) | exact TyX.base TyOf.non | exact scal_opt _ _ | exact k_ii | exact k_bi | exact k_ni | exact k_ib | exact k_bb | exact TyX.base (TyOf.lst (by assumption)) | exact k_ll | exact k_lt)
local macro_rules | `(tactic| walk_at "p") => `(tactic| repeat (first | refine And.intro (by walk_at "side") ?_ | apply Exists.intro | refine iteN (by assumption) ?_ | refine iteP (by assumption) ?_ | refine iteN (by decide) ?_ | refine iteP (by decide) ?_))

section
variable {P : Program} {w : World} {K : PySem.W.Frag} {mg : Str → Option Value} {base : Heap}
def sp_law_is_int (_ : Txt K mg) : Sp := fun vs H Q _ => ∃ x, vs = [x] ∧ plain4 x = true ∧ Q (.bl (isI x)) H
theorem sp_law_is_int_len {T : Txt K mg} {vs H Q E} (h : sp_law_is_int T vs H Q E) : vs.length = 1 := by obtain ⟨_, rfl, _⟩ := h; rfl
theorem ok_law_is_int (T : Txt K mg) : FnOk P w K mg base CX0 1 T.f_law_is_int T.fd_law_is_int ["_law_thing"] (sp_law_is_int T) := by
  skip
  refine T.F_law_is_int.ok sc_law_is_int (fun vs H Q E h => sp_law_is_int_len h) (fun cdv A outer s H vs Q E hr h => ?_)
  obtain ⟨x, rfl, hx, k⟩ := h
  refine ⟨_, (pss_one (ps_ret (pe_and (pe_callB call_isTy (by rfl) T.n_isinstance (by decide +kernel) (pa_cons (pv 0) (pa_cons (pe_bltn (v := .ty "int") (by rfl) T.n_int (by decide +kernel) rfl) pa_nil))) (pe_one (pe_not (pe_callB call_isTy (by rfl) T.n_isinstance (by decide +kernel) (pa_cons (pv 0) (pa_cons (pe_bltn (v := .ty "bool") (by rfl) T.n_bool (by decide +kernel) rfl) pa_nil)))))))), ?_⟩
  refine ⟨_, rfl, _, _, "int", rfl, ty4 hx, _, k_4i hx, ?_⟩
  cases x with
  | int i => exact ⟨_, rfl, iteP rfl ⟨_, rfl, _, _, _, rfl, ty4 (by rfl), _, k_4b (by rfl), _, rfl, k⟩⟩
  | bl b => exact ⟨_, rfl, iteP rfl ⟨_, rfl, _, _, _, rfl, ty4 (by rfl), _, k_4b (by rfl), _, rfl, k⟩⟩
  | non => exact ⟨_, rfl, iteN (fun z => by cases z) k⟩
  | str z => exact ⟨_, rfl, iteN (fun z => by cases z) k⟩
  | _ => cases hx
def lettersTo (ps : List (List Nat)) (j : Nat) : List (Nat × Nat) := ((lettersN.take j).filter fun c => decide (c ∈ ps.flatten)).map fun c => (c, ps.flatten.count c)
theorem lettersTo_all (ps : List (List Nat)) : lettersTo ps 5 = lettersM ps := rfl
theorem lettersTo_succ (ps : List (List Nat)) {j c : Nat} (h : lettersN[j]? = some c) : lettersTo ps (j + 1) = if 0 < ps.flatten.count c then lettersTo ps j ++ [(c, ps.flatten.count c)] else lettersTo ps j := by
  unfold lettersTo
  generalize ps.flatten = fl
  rw [List.take_succ, h, List.filter_append, List.map_append]
  by_cases hm : c ∈ fl
  · rw [if_pos (List.count_pos_iff.mpr hm)]
    simp [hm]
  · rw [if_neg fun z => hm (List.count_pos_iff.mp z)]
    simp [hm]
theorem sgV {a b : Nat} : decide (V.str (sg a) = V.str (sg b)) = decide (a = b) := by
  by_cases h : a = b
  · rw [h]; simp
  · rw [decide_eq_false h, decide_eq_false]
    intro z
    have := V.str.inj z
    unfold sg at this
    simp at this
    exact h this
def LettersL (H : Hp) (l : Addr) (L : List (Nat × Nat)) : Prop := ∃ ts, H l = some (.lst ts) ∧ Refs H ts L LetAt
def sp_law_letters (_ : Txt K mg) : Sp := fun vs H Q _ => ∃ (a : Addr) (ps : List Str), vs = [.ref a] ∧ H a = some (.lst (ps.map V.str)) ∧ ps.length ≤ 3 ∧ (∀ z ∈ ps, z.length ≤ 64) ∧ ∀ (H' : Hp) (l : Addr), Same H H' → H l = none → LettersL H' l (lettersM (pls ps)) → Q (.ref l) H'
theorem sp_law_letters_len {T : Txt K mg} {vs H Q E} (h : sp_law_letters T vs H Q E) : vs.length = 1 := by obtain ⟨_, _, rfl, _⟩ := h; rfl
theorem ok_law_letters (T : Txt K mg) : FnOk P w K mg base CX0 1 T.f_law_letters T.fd_law_letters ["_law_patterns_here"] (sp_law_letters T) := by
  skip
  refine T.F_law_letters.ok sc_law_letters (fun vs H Q E h => sp_law_letters_len h) (fun cdv A outer s H vs Q E hr h => ?_)
  obtain ⟨a, ps, rfl, ha, h3, h64, k⟩ := h
  refine ⟨_, (pss_cons (ps_set (i := 1) sc_law_letters.nd rfl (Or.inl rfl) (pe_lst pa_nil))
       (pss_cons (ps_for PassesOwn.never rfl (pi_list (pe_lst (pa_cons pe_str (pa_cons pe_str (pa_cons pe_str (pa_cons pe_str (pa_cons pe_str pa_nil))))))) (pg_name (i := 2) sc_law_letters.nd rfl (Or.inl rfl))
        (pss_cons (ps_set (i := 3) sc_law_letters.nd rfl (Or.inl rfl) pe_int)
       (pss_cons (ps_for PassesOwn.never rfl (pi_list (pv 0)) (pg_name (i := 4) sc_law_letters.nd rfl (Or.inl rfl))
        (pss_one (ps_for PassesOwn.never rfl (pi_str (pv 4)) (pg_name (i := 5) sc_law_letters.nd rfl (Or.inl rfl))
        (pss_one (ps_if (pt_cmpR op_eq (pv 5) (pv 2) (nomark _))
        (pss_one (ps_aug (i := 3) sc_law_letters.nd rfl (Or.inl rfl) pe_int ip_add))
        pss_nil)))))
       (pss_one (ps_if (pt_cmpR op_gt (pv 3) pe_int (nomark _))
        (pss_one (ps_expr (pe_bm PySem.F.plainAttrs_list PySem.F.slot_list_append PySem.F.type_list_append mt_append (pv 1) (pa_cons (pe_tup (pa_cons (pv 2) (pa_cons (pv 3) pa_nil))) pa_nil))))
        pss_nil)))))
       (pss_one (ps_ret (pv 1))))), ?_⟩
  have sz : sizeLine = 16777216 := sizeLine_eq
  refine ⟨Nat.zero_le _, fun l hl0 => ?_⟩
  refine ⟨by show 5 ≤ _; omega, fun b hb0 => ?_⟩
  have eL : ([.str "a", .str "b", .str "c", .str "m", .str "n"] : List V) = lettersN.map fun c => V.str (sg c) := rfl
  rw [eL]
  have s0 := (same_new (o := .lst []) hl0).trans (same_new (o := .lst (lettersN.map fun c => V.str (sg c))) hb0)
  have hl2 : upd (upd H l (.lst [])) b (.lst (lettersN.map fun c => V.str (sg c))) l = some (.lst []) := same_new hb0 _ _ upd_same
  have hb2 : upd (upd H l (.lst [])) b (.lst (lettersN.map fun c => V.str (sg c))) b = some (.lst (lettersN.map fun c => V.str (sg c))) := upd_same
  have lb : b ≠ l := fun z => by rw [z, upd_same] at hb0; cases hb0
  generalize upd (upd H l (.lst [])) b (.lst (lettersN.map fun c => V.str (sg c))) = H2 at s0 hl2 hb2 ⊢
  have nl : ∀ b o, H b = some o → b ≠ l := fun b o e z => by rw [z, hl0] at e; cases e
  refine ⟨b, rfl, ⟨_, SqL.of hb2⟩, ?_⟩
  refine for_it (walk_list (xs := lettersN.map fun c => V.str (sg c))) (fun j σ H3 => Same H H3 ∧ H3 b = some (.lst (lettersN.map fun c => V.str (sg c))) ∧ (∃ ts, H3 l = some (.lst ts) ∧ Refs H3 ts (lettersTo (pls ps) j) LetAt) ∧ ∃ v2 v3 v4 v5 : Option V, σ = [some (.ref a), some (.ref l), v2, v3, v4, v5])
    ⟨s0, hb2, ⟨[], hl2, Refs.nil⟩, none, none, none, none, rfl⟩ (fun j σ H3 _ ⟨_, hb3, _⟩ => SqL.of hb3) ?_ ?_
  · rintro j x σ H3 H4 hj ⟨s3, hb3, ⟨ts, hl3, hR⟩, v2, v3, v4, v5, rfl⟩ ⟨rfl, hx⟩
    rw [List.getElem?_map] at hx
    have hj5 : j < lettersN.length := by rw [List.length_map] at hj; exact hj
    obtain ⟨c, hc, rfl⟩ : ∃ c, lettersN[j]? = some c ∧ x = V.str (sg c) := by
      rw [List.getElem?_eq_getElem hj5] at hx
      exact ⟨_, List.getElem?_eq_getElem hj5, (Option.some.inj hx).symm⟩
    refine ⟨_, rfl, a, rfl, ⟨_, SqL.of (s3 _ _ ha)⟩, ?_⟩
    refine for_it (walk_list (xs := ps.map V.str)) (fun i σ H5 => H5 = H4 ∧ ∃ v4 v5 : Option V, σ = [some (.ref a), some (.ref l), some (.str (sg c)), some (.int ((((pls ps).take i).flatten.count c : Nat) : Int)), v4, v5]) ⟨rfl, _, _, rfl⟩ (fun i σ H5 _ ⟨e, _⟩ => by rw [e]; exact SqL.of (s3 _ _ ha)) ?_ ?_
    · rintro i x σ H5 H6 hi ⟨rfl, w4, w5, rfl⟩ ⟨rfl, hx⟩
      rw [List.getElem?_map] at hx
      obtain ⟨z, hz, rfl⟩ : ∃ z, ps[i]? = some z ∧ x = V.str z := by
        cases h : ps[i]? with
        | none => rw [h] at hx; cases hx
        | some z => rw [h] at hx; exact ⟨z, rfl, (Option.some.inj hx).symm⟩
      refine ⟨_, rfl, z, rfl, ?_⟩
      refine for_it walk_str (fun k σ H7 => H7 = H6 ∧ ∃ v5 : Option V, σ = [some (.ref a), some (.ref l), some (.str (sg c)), some (.int (((((pls ps).take i).flatten.count c + (z.cps.toList.take k).count c : Nat)) : Int)), some (.str z), v5]) ⟨rfl, _, rfl⟩ (fun _ _ _ _ _ => trivial) ?_ ?_
      · rintro k x σ H7 H8 hk ⟨rfl, w5, rfl⟩ ⟨rfl, d, hd, rfl⟩
        rw [← Array.getElem?_toList] at hd
        have ek : (z.cps.toList.take (k + 1)).count c = (z.cps.toList.take k).count c + if d = c then 1 else 0 := by
          rw [List.take_succ, hd, List.count_append]
          by_cases e : d = c
          · simp [e]
          · simp [e]
        refine ⟨_, rfl, _, rfl, rfl, _, rfl, ?_⟩
        rw [show decide (V.str ⟨#[d]⟩ = V.str (sg c)) = decide (d = c) from sgV (a := d) (b := c)]
        by_cases e : d = c
        · refine iteP (decide_eq_true e) ?_
          refine ⟨_, rfl, _, _, rfl, rfl, ?_⟩
          refine ⟨rfl, some (.str ⟨#[d]⟩), ?_⟩
          rw [ek, if_pos e]
          rfl
        · refine iteN (by simp [e]) ?_
          refine ⟨rfl, some (.str ⟨#[d]⟩), ?_⟩
          rw [ek, if_neg e]
          rfl
      · rintro σ H7 ⟨rfl, w5, rfl⟩
        refine ⟨rfl, some (.str z), w5, ?_⟩
        have : (pls ps)[i]? = some z.cps.toList := by unfold pls; rw [List.getElem?_map, hz]; rfl
        rw [List.take_succ (l := pls ps), this, List.flatten_append, List.count_append, List.take_of_length_le (l := z.cps.toList) (i := z.cps.size) (by rw [Array.length_toList]; exact Nat.le_refl _), show ((some z.cps.toList).toList.flatten : List Nat) = z.cps.toList from List.append_nil _]
    · rintro σ H5 ⟨rfl, w4, w5, rfl⟩
      rw [List.take_of_length_le (by unfold pls; rw [List.length_map, List.length_map]; exact Nat.le_refl _)]
      have hs := lettersTo_succ (pls ps) hc
      refine ⟨_, rfl, _, _, rfl, rfl, _, rfl, ?_⟩
      by_cases e : 0 < (pls ps).flatten.count c
      · refine iteP (by simpa using e) ?_
        rw [if_pos e] at hs
        have t5 : (lettersTo (pls ps) j).length ≤ 5 := by
          unfold lettersTo
          rw [List.length_map]
          exact Nat.le_trans (List.length_filter_le _ _) (List.length_take_le' _ _)
        have tl := hR.1
        refine ⟨_, rfl, .inl ⟨rfl, _, SqL.of hl3⟩, _, rfl, _, rfl, by show 2 ≤ _; omega, fun u u0 => ?_⟩
        have s6 := same_new (o := .tup [.str (sg c), .int (((pls ps).flatten.count c : Nat) : Int)]) u0
        refine ⟨l, ts, _, rfl, rfl, s6 _ _ hl3, by omega, ?_⟩
        have nl6 := NL.list (s6 _ _ hl3) (o := .lst (ts ++ [V.ref u]))
        refine ⟨fun b o e => by rw [upd_ne (nl b o e)]; exact s6 _ _ (s3 _ _ e), by rw [upd_ne lb]; exact s6 _ _ hb3, ⟨_, upd_same, ?_⟩, _, _, _, _, rfl⟩
        rw [hs]
        refine (hR.map fun u x _ h => nl6 _ _ (s6 _ _ h) (fun xs z => by cases z)).snoc (R := LetAt) ?_
        exact nl6 _ _ upd_same (fun xs z => by cases z)
      · refine iteN (by simpa using e) ?_
        rw [if_neg e] at hs
        exact ⟨s3, hb3, ⟨ts, hl3, by rw [hs]; exact hR⟩, _, _, _, _, rfl⟩
  · rintro σ H3 ⟨s3, hb3, ⟨ts, hl3, hR⟩, v2, v3, v4, v5, rfl⟩
    exact ⟨_, rfl, k _ _ s3 hl0 ⟨ts, hl3, hR⟩⟩
def sp_law_fits (_ : Txt K mg) : Sp := fun vs H Q _ => ∃ (z : Str) (c : Nat), vs = [.str z, .int (c : Nat)] ∧ z.length ≤ 64 ∧ Q (.bl (fitB z.cps.toList c)) H
theorem sp_law_fits_len {T : Txt K mg} {vs H Q E} (h : sp_law_fits T vs H Q E) : vs.length = 2 := by obtain ⟨_, _, rfl, _⟩ := h; rfl
theorem ok_law_fits (T : Txt K mg) : FnOk P w K mg base CX0 1 T.f_law_fits T.fd_law_fits ["_law_pattern", "_law_word"] (sp_law_fits T) := by
  skip
  refine T.F_law_fits.ok sc_law_fits (fun vs H Q E h => sp_law_fits_len h) (fun cdv A outer s H vs Q E hr h => ?_)
  obtain ⟨z, c, rfl, hz, k⟩ := h
  refine ⟨_, (pss_cons (ps_set (i := 2) sc_law_fits.nd rfl (Or.inl rfl) (pe_op op_sub (pe_callB call_len_str (by rfl) T.n_len (by decide +kernel) (pa_cons (pv 0) pa_nil)) pe_int))
       (pss_cons (ps_for PassesOwn.never rfl (pi_range1 (by rfl) T.n_range (pa_cons (pe_callB call_len_str (by rfl) T.n_len (by decide +kernel) (pa_cons (pv 0) pa_nil)) pa_nil)) (pg_name (i := 3) sc_law_fits.nd rfl (Or.inl rfl))
        (pss_cons (ps_set (i := 4) sc_law_fits.nd rfl (Or.inl rfl) (pe_op op_and (pe_op op_shr (pv 1) (pe_op op_sub (pv 2) (pv 3))) pe_int))
       (Evl.pss_cut (ps_if (PW.pt (pw_and (pt_cmpR op_eq (pe_ix ix_str (pv 0) (pv 3) (fun _ _ => rfl)) pe_str (nomark _)) (pw_and1 (pt_cmpR op_eq (pv 4) pe_int (nomark _)))))
        (pss_one (ps_ret pe_bl))
        pss_nil)
       (pss_one (ps_if (PW.pt (pw_and (pt_cmpR op_eq (pe_ix ix_str (pv 0) (pv 3) (fun _ _ => rfl)) pe_str (nomark _)) (pw_and1 (pt_cmpR op_eq (pv 4) pe_int (nomark _)))))
        (pss_one (ps_ret pe_bl))
        pss_nil)))))
       (pss_one (ps_ret pe_bl)))), ?_⟩
  have sz : sizeLine = 16777216 := sizeLine_eq
  have zl : z.cps.toList.length = z.length := by rw [Array.length_toList]; rfl
  refine ⟨_, rfl, z, rfl, by omega, _, _, rfl, rfl, ?_⟩
  refine ⟨_, rfl, z, rfl, by omega, _, rfl, by omega, by omega, ?_⟩
  refine for_range (lo := 0) (n := ((z.length : Nat) : Int).toNat) (fun i σ H1 => H1 = H ∧ fitB z.cps.toList c = fitB (z.cps.toList.drop i) c ∧ ∃ v3 v4 : Option V, σ = [some (.str z), some (.int (c : Nat)), some (.int ((z.length : Nat) - 1)), v3, v4]) ⟨rfl, rfl, none, none, rfl⟩ ?_ ?_
  · rintro i σ H1 hi ⟨rfl, hf, v3, v4, rfl⟩
    rw [Int.toNat_natCast] at hi
    have hil : i < z.cps.toList.length := by omega
    have em : ((z.length : Int) - 1 - (0 + (i : Int))).toNat = z.length - 1 - i := by omega
    have hs := List.getElem?_eq_getElem hil
    generalize z.cps.toList[i] = sgn0 at hs
    have hdr : z.cps.toList.drop i = sgn0 :: z.cps.toList.drop (i + 1) := by
      rw [List.drop_eq_getElem_cons hil]
      have := List.getElem?_eq_getElem hil
      rw [hs] at this
      rw [Option.some.inj this]
    have hdl : (z.cps.toList.drop (i + 1)).length = z.length - 1 - i := by rw [List.length_drop]; omega
    have eb : V.int (Builtin.bitAnd ((c : Int) / 2 ^ ((z.length : Int) - 1 - (0 + (i : Int))).toNat) 1) = V.int ((c / 2 ^ (z.length - 1 - i) % 2 : Nat) : Int) := by rw [em, shr_and]
    have htb : c.testBit (z.length - 1 - i) = decide (c / 2 ^ (z.length - 1 - i) % 2 = 1) := Nat.testBit_eq_decide_div_mod_eq
    have hf2 : fitB z.cps.toList c = ((!(sgn0 == 48 && c.testBit (z.length - 1 - i))) && (!(sgn0 == 49 && !c.testBit (z.length - 1 - i))) && fitB (z.cps.toList.drop (i + 1)) c) := by
      rw [hf, hdr, fitB, hdl]
    have ea : (0 + (i : Int)) = (i : Int) := by omega
    have hat : atI z.cps.toList (0 + (i : Int)) = some sgn0 := by rw [ea]; exact atI_nat hs
    have b2 : c / 2 ^ (z.length - 1 - i) % 2 < 2 := Nat.mod_lt _ (by decide)
    generalize hbb : c / 2 ^ (z.length - 1 - i) % 2 = bb at eb htb b2
    refine ⟨_, rfl, _, rfl, _, rfl, _, _, rfl, rfl, _, _, rfl, rfl, by omega, _, _, rfl, rfl, ?_⟩
    refine ⟨fun σ' H' => H' = H1 ∧ ¬ (sgn0 = 48 ∧ bb = 1) ∧ σ' = [some (.str z), some (.int (c : Nat)), some (.int ((z.length : Nat) - 1)), some (.int (0 + (i : Int))), some (.int (Builtin.bitAnd ((c : Int) / 2 ^ ((z.length : Int) - 1 - (0 + (i : Int))).toNat) 1))], ?_, ?_⟩
    · refine ⟨_, rfl, _, rfl, z, _, sgn0, rfl, rfl, by omega, hat, rfl, _, rfl, ?_⟩
      refine iteB (fun h1 => ?_) fun h1 => ?_
      · have e48 : sgn0 = 48 := of_decide_eq_true ((sgV (a := sgn0) (b := 48)).symm.trans h1)
        refine ⟨_, rfl, rfl, _, rfl, iteB (fun h2 => ?_) fun h2 => ?_⟩
        · have e1 : bb = 1 := Int.ofNat.inj (V.int.inj (eb.symm.trans (of_decide_eq_true h2)))
          rw [htb, e1, e48] at hf2
          have : fitB z.cps.toList c = false := by rw [hf2]; rfl
          rw [this] at k
          exact k
        · refine ⟨rfl, fun ⟨_, e1⟩ => ?_, rfl⟩
          have h3 := of_decide_eq_false h2
          exact h3 (eb.trans (by rw [e1]; rfl))
      · refine iteN (by decide) ?_
        refine ⟨rfl, fun ⟨e48, _⟩ => ?_, rfl⟩
        have h3 := (sgV (a := sgn0) (b := 48)).symm.trans h1
        exact of_decide_eq_false h3 e48
    · rintro σ' H' ⟨rfl, hn, rfl⟩
      refine ⟨_, rfl, _, rfl, z, _, sgn0, rfl, rfl, by omega, hat, rfl, _, rfl, ?_⟩
      have fin : ¬ (sgn0 = 49 ∧ bb = 0) → H' = H' ∧ fitB z.cps.toList c = fitB (z.cps.toList.drop (i + 1)) c ∧ ∃ v3 v4 : Option V, [some (V.str z), some (.int (c : Nat)), some (.int ((z.length : Nat) - 1)), some (.int (0 + (i : Int))), some (.int (Builtin.bitAnd ((c : Int) / 2 ^ ((z.length : Int) - 1 - (0 + (i : Int))).toNat) 1))] = [some (.str z), some (.int (c : Nat)), some (.int ((z.length : Nat) - 1)), v3, v4] := fun hn2 => by
        refine ⟨rfl, ?_, _, _, rfl⟩
        rw [hf2, htb]
        have : bb = 0 ∨ bb = 1 := by omega
        rcases this with rfl | rfl
        · have : ¬ sgn0 = 49 := fun e => hn2 ⟨e, rfl⟩
          simp [this]
        · have : ¬ sgn0 = 48 := fun e => hn ⟨e, rfl⟩
          simp [this]
      refine iteB (fun h1 => ?_) fun h1 => ?_
      · have e49 : sgn0 = 49 := of_decide_eq_true ((sgV (a := sgn0) (b := 49)).symm.trans h1)
        refine ⟨_, rfl, rfl, _, rfl, iteB (fun h2 => ?_) fun h2 => ?_⟩
        · have e1 : bb = 0 := Int.ofNat.inj (V.int.inj (eb.symm.trans (of_decide_eq_true h2)))
          rw [htb, e1, e49] at hf2
          have : fitB z.cps.toList c = false := by rw [hf2]; rfl
          rw [this] at k
          exact k
        · refine fin fun ⟨_, e1⟩ => ?_
          have h3 := of_decide_eq_false h2
          exact h3 (eb.trans (by rw [e1]; rfl))
      · refine iteN (by decide) (fin fun ⟨e49, _⟩ => ?_)
        have h3 := (sgV (a := sgn0) (b := 49)).symm.trans h1
        exact of_decide_eq_false h3 e49
  · rintro σ H1 ⟨rfl, hf, v3, v4, rfl⟩
    have : fitB z.cps.toList c = true := by rw [hf, List.drop_of_length_le (by rw [zl, Int.toNat_natCast]; exact Nat.le_refl _)]; rfl
    rw [this] at k
    exact k
end
end My

/-! LC -/
namespace My
open PySem L2
local macro_rules | `(tactic| walk_at "side") => `(tactic| first | with_reducible rfl | assumption | rfl | decide | omega | exact cpow1 (by omega) (by omega) | exact cdiv (by omega) (by omega) | exact two_pos _ | exact SqL.of (by assumption) | exact SqT.of (by assumption) | exact TyX.base (TyOf.int _) | exact TyX.base (TyOf.bl _) | exact TyX.base TyOf.non | exact scal_opt _ _ | exact k_ii | exact k_bi | exact k_ni | exact k_ib | exact k_bb | exact TyX.base (TyOf.lst (by assumption)) | exact k_ll | exact k_lt)
local macro_rules | `(tactic| walk_at "p") => `(tactic| repeat (first | refine And.intro (by walk_at "side") ?_ | apply Exists.intro | refine iteN (by assumption) ?_ | refine iteP (by assumption) ?_ | refine iteN (by decide) ?_ | refine iteP (by decide) ?_))

theorem LettersL.news {H H' : Hp} {l : Addr} {L : List (Nat × Nat)} (h : LettersL H l L) (s : Same H H') : LettersL H' l L := by
  obtain ⟨ts, h1, h2⟩ := h
  exact ⟨ts, s _ _ h1, h2.map fun u q _ r => s _ _ r⟩
theorem bitsOf_get : ∀ (p : List Nat) (c i s : Nat), p[i]? = some s → (bitsOf p c)[i]? = some (s, c / 2 ^ (p.length - 1 - i) % 2)
  | [], _, _, _, h => by simp at h
  | x :: r, c, 0, s, h => by
    cases h
    rw [bitsOf]
    show some _ = some _
    rw [show (x :: r).length - 1 - 0 = r.length from rfl]
  | x :: r, c, i + 1, s, h => by
    have := bitsOf_get r c i s h
    rw [bitsOf]
    show (bitsOf r c)[i]? = _
    rw [this, show (x :: r).length - 1 - (i + 1) = r.length - 1 - i by rw [List.length_cons]; omega]
section
variable {P : Program} {w : World} {K : PySem.W.Frag} {mg : Str → Option Value} {base : Heap}
def sp_law_numbers (_ : Txt K mg) : Sp := fun vs H Q _ => ∃ (a b : Addr) (ps : List Str) (cs : List Nat), vs = [.ref a, .ref b] ∧ H a = some (.lst (ps.map V.str)) ∧ H b = some (.lst (natsV cs)) ∧ ps.length ≤ cs.length ∧ ps.length ≤ 3 ∧ (∀ z ∈ ps, z.length ≤ 64) ∧ ∀ (H' : Hp) (l : Addr), Same H H' → H l = none → H' l = some (.lst (natsV (numsM (pls ps) cs))) → Q (.ref l) H'
theorem sp_law_numbers_len {T : Txt K mg} {vs H Q E} (h : sp_law_numbers T vs H Q E) : vs.length = 2 := by obtain ⟨_, _, _, _, rfl, _⟩ := h; rfl
theorem ok_law_numbers (T : Txt K mg) : FnOk P w K mg base CX0 2 T.f_law_numbers T.fd_law_numbers ["_law_patterns_here", "_law_cells"] (sp_law_numbers T) := by
  have G_law_letters := ok_law_letters (P := P) (w := w) (base := base) T
  refine T.F_law_numbers.ok sc_law_numbers (fun vs H Q E h => sp_law_numbers_len h) (fun cdv A outer s H vs Q E hr h => ?_)
  obtain ⟨a, b, ps, cs, rfl, ha, hb, hlen, h3, h64, k⟩ := h
  refine ⟨_, (pss_cons (ps_set (i := 2) sc_law_numbers.nd rfl (Or.inl rfl) (pe_lst pa_nil))
       (pss_cons (ps_for PassesOwn.never rfl (pi_list (pe_call G_law_letters hr rfl T.g_law_letters T.F_law_letters.kp T.b_law_letters .nil pass0 (pa_cons (pv 0) pa_nil))) (pg_tup (n := 2) rfl (pgs_cons (pg_name (i := 3) sc_law_numbers.nd rfl (Or.inl rfl)) (pgs_cons (pg_name (i := 4) sc_law_numbers.nd rfl (Or.inl rfl)) pgs_nil)))
        (pss_cons (ps_set (i := 5) sc_law_numbers.nd rfl (Or.inl rfl) pe_int)
       (pss_cons (ps_for PassesOwn.never rfl (pi_range1 (by rfl) T.n_range (pa_cons (pe_callB call_lenL (by rfl) T.n_len (by decide +kernel) (pa_cons (pv 0) pa_nil)) pa_nil)) (pg_name (i := 6) sc_law_numbers.nd rfl (Or.inl rfl))
        (pss_cons (ps_set (i := 7) sc_law_numbers.nd rfl (Or.inl rfl) (pe_op op_sub (pe_callB call_len_str (by rfl) T.n_len (by decide +kernel) (pa_cons (pe_ix ix_list (pv 0) (pv 6) (fun _ _ => rfl)) pa_nil)) pe_int))
       (pss_one (ps_for PassesOwn.never rfl (pi_range1 (by rfl) T.n_range (pa_cons (pe_callB call_len_str (by rfl) T.n_len (by decide +kernel) (pa_cons (pe_ix ix_list (pv 0) (pv 6) (fun _ _ => rfl)) pa_nil)) pa_nil)) (pg_name (i := 8) sc_law_numbers.nd rfl (Or.inl rfl))
        (pss_one (ps_if (pt_cmpR op_eq (pe_ix ix_str (pe_ix ix_list (pv 0) (pv 6) (fun _ _ => rfl)) (pv 8) (fun _ _ => rfl)) (pv 3) (nomark _))
        (pss_one (ps_set (i := 5) sc_law_numbers.nd rfl (Or.inl rfl) (pe_op op_add (pe_op op_mul (pv 5) pe_int) (pe_op op_and (pe_op op_shr (pe_ix ix_list (pv 1) (pv 6) (fun _ _ => rfl)) (pe_op op_sub (pv 7) (pv 8))) pe_int))))
        pss_nil))))))
       (pss_one (ps_expr (pe_bm PySem.F.plainAttrs_list PySem.F.slot_list_append PySem.F.type_list_append mt_append (pv 2) (pa_cons (pv 5) pa_nil)))))))
       (pss_one (ps_ret (pv 2))))), ?_⟩
  have sz : sizeLine = 16777216 := sizeLine_eq
  refine ⟨Nat.zero_le _, fun l l0 => ?_⟩
  have s1 := same_new (o := .lst []) l0
  refine ⟨_, rfl, a, ps, rfl, s1 _ _ ha, h3, h64, fun H2 q s2 q0 hq => ?_⟩
  have h2l := s2 _ _ upd_same
  have ql : q ≠ l := fun z => by rw [z, upd_same] at q0; cases q0
  have nl : ∀ b o, H b = some o → b ≠ l := fun b o e z => by rw [z, l0] at e; cases e
  obtain ⟨ts, hts, hR⟩ := hq
  have hLl := hR.1
  have hL5 := lettersM_le (pls ps)
  refine ⟨q, rfl, ⟨_, SqL.of hts⟩, ?_⟩
  refine for_it (walk_list (xs := ts)) (fun j σ H3 => Same H H3 ∧ (∀ b o, H2 b = some o → b ≠ l → H3 b = some o) ∧ H3 l = some (.lst (natsV (((lettersM (pls ps)).take j).map fun g => numL g.1 (allBits (pls ps) cs)))) ∧ ∃ v3 v4 v5 v6 v7 v8 : Option V, σ = [some (.ref a), some (.ref b), some (.ref l), v3, v4, v5, v6, v7, v8])
    ⟨s1.trans s2, fun b o e _ => e, h2l, none, none, none, none, none, none, rfl⟩ (fun j σ H3 _ ⟨_, k3, _⟩ => SqL.of (k3 _ _ hts ql)) ?_ ?_
  · rintro j x σ H3 H4 hj ⟨s3, k3, hl3, v3, v4, v5, v6, v7, v8, rfl⟩ ⟨rfl, hx⟩
    obtain ⟨u, g, hg, hu, hr⟩ := hR.at (i := j) (by omega)
    rw [hu] at hx
    cases hx
    have ul : u ≠ l := fun z => by rw [z] at hr; unfold LetAt at hr; rw [h2l] at hr; cases hr
    have hr4 := k3 _ _ hr ul
    refine ⟨u, _, rfl, SqT.of hr4, rfl, _, _, rfl, _, _, rfl, rfl, ?_⟩
    refine ⟨_, rfl, a, _, rfl, SqL.of (s3 _ _ ha), _, rfl, by rw [List.length_map]; omega, by rw [List.length_map]; omega, ?_⟩
    refine for_range (lo := 0) (n := (((ps.map V.str).length : Nat) : Int).toNat) (fun i σ H5 => H5 = H4 ∧ ∃ (nm : Int) (v6 v7 v8 : Option V), nm = (numL g.1 ((((pls ps).zip cs).take i).map fun q => bitsOf q.1 q.2).flatten : Nat) ∧ σ = [some (.ref a), some (.ref b), some (.ref l), some (.str (sg g.1)), some (.int (g.2 : Nat)), some (.int nm), v6, v7, v8]) ⟨rfl, 0, v6, v7, v8, rfl, rfl⟩ ?_ ?_
    · rintro i σ H5 hi ⟨rfl, nm, w6, w7, w8, hnm, rfl⟩
      rw [Int.toNat_natCast, List.length_map] at hi
      have hz := List.getElem?_eq_getElem hi
      have hc := List.getElem?_eq_getElem (show i < cs.length by omega)
      generalize ps[i] = z at hz
      generalize cs[i] = c at hc
      have hz64 := h64 z (List.mem_of_getElem? hz)
      have ei : (0 + (i : Int)) = (i : Int) := by omega
      have hzat : atI (ps.map V.str) (0 + (i : Int)) = some (.str z) := by rw [ei]; exact atI_nat (by rw [List.getElem?_map, hz]; rfl)
      have hcat : atI (natsV cs) (0 + (i : Int)) = some (.int (c : Nat)) := by rw [ei]; exact atI_nat (by unfold natsV; rw [List.getElem?_map, hc]; rfl)
      have hzc : ((pls ps).zip cs)[i]? = some (z.cps.toList, c) := List.getElem?_zip_eq_some.mpr ⟨by unfold pls; rw [List.getElem?_map, hz]; rfl, hc⟩
      have zl : z.cps.toList.length = z.length := by rw [Array.length_toList]; rfl
      have ha5 := SqL.of (K := K) (s3 _ _ ha)
      have hb5 := SqL.of (K := K) (s3 _ _ hb)
      refine ⟨_, rfl, _, rfl, a, _, _, .str z, rfl, rfl, ha5, hzat, z, rfl, by omega, _, _, rfl, rfl, ?_⟩
      refine ⟨_, rfl, _, rfl, a, _, _, .str z, rfl, rfl, ha5, hzat, z, rfl, by omega, _, rfl, by omega, by omega, ?_⟩
      refine for_range (lo := 0) (n := ((z.length : Nat) : Int).toNat) (fun kk σ H6 => H6 = H5 ∧ ∃ (nm : Int) (v8 : Option V), nm = (numL g.1 (((((pls ps).zip cs).take i).map fun q => bitsOf q.1 q.2).flatten ++ (bitsOf z.cps.toList c).take kk) : Nat) ∧ σ = [some (.ref a), some (.ref b), some (.ref l), some (.str (sg g.1)), some (.int (g.2 : Nat)), some (.int nm), some (.int (0 + (i : Int))), some (.int ((z.length : Nat) - 1)), v8]) ⟨rfl, nm, w8, by rw [List.take_zero, List.append_nil]; exact hnm, rfl⟩ ?_ ?_
      · rintro kk σ H6 hk ⟨rfl, nm, w8, hnm, rfl⟩
        rw [Int.toNat_natCast] at hk
        have hkl : kk < z.cps.toList.length := by omega
        have hs := List.getElem?_eq_getElem hkl
        generalize z.cps.toList[kk] = sn at hs
        have ek : (0 + (kk : Int)) = (kk : Int) := by omega
        have hat : atI z.cps.toList (0 + (kk : Int)) = some sn := by rw [ek]; exact atI_nat hs
        have hbk := bitsOf_get z.cps.toList c kk sn hs
        rw [zl] at hbk
        have e6 : numL g.1 (((((pls ps).zip cs).take i).map fun q => bitsOf q.1 q.2).flatten ++ (bitsOf z.cps.toList c).take (kk + 1)) = numStep g.1 (numL g.1 (((((pls ps).zip cs).take i).map fun q => bitsOf q.1 q.2).flatten ++ (bitsOf z.cps.toList c).take kk)) (sn, c / 2 ^ (z.length - 1 - kk) % 2) := by
          rw [List.take_succ, hbk, ← List.append_assoc]; exact numL_snoc _ _ _
        generalize numL g.1 (((((pls ps).zip cs).take i).map fun q => bitsOf q.1 q.2).flatten ++ (bitsOf z.cps.toList c).take kk) = W at hnm e6
        refine ⟨_, rfl, _, rfl, a, _, _, .str z, rfl, rfl, ha5, hzat, _, rfl, z, _, sn, rfl, rfl, by omega, hat, _, rfl, rfl, _, rfl, ?_⟩
        refine iteB (fun h1 => ?_) fun h1 => ?_
        · have es : sn = g.1 := of_decide_eq_true ((sgV (a := sn) (b := g.1)).symm.trans h1)
          refine ⟨_, rfl, _, _, rfl, rfl, .inr ⟨by decide, by decide⟩, _, rfl, _, rfl, b, _, _, .int (c : Nat), rfl, rfl, hb5, hcat, _, rfl, _, rfl, _, _, rfl, rfl, _, _, rfl, rfl, ?_, _, _, rfl, rfl, _, _, rfl, rfl, ?_⟩
          · show (0 : Int) ≤ (z.length : Int) - 1 - (0 + (kk : Int)); omega
          refine ⟨rfl, _, _, ?_, rfl⟩
          rw [e6, numStep, if_pos es]
          show nm * 2 + Builtin.bitAnd ((c : Int) / 2 ^ ((z.length : Int) - 1 - (0 + (kk : Int))).toNat) 1 = _
          rw [show ((z.length : Int) - 1 - (0 + (kk : Int))).toNat = z.length - 1 - kk by omega, shr_and, hnm]
          omega
        · have es : ¬ sn = g.1 := of_decide_eq_false ((sgV (a := sn) (b := g.1)).symm.trans h1)
          refine ⟨rfl, nm, _, ?_, rfl⟩
          rw [e6, numStep, if_neg es]
          exact hnm
      · rintro σ H6 ⟨rfl, nm, w8, hnm, rfl⟩
        refine ⟨rfl, nm, _, _, _, ?_, rfl⟩
        rw [hnm, Int.toNat_natCast, List.take_of_length_le (l := bitsOf z.cps.toList c) (by rw [bitsOf_len, zl]; exact Nat.le_refl _), List.take_succ (l := (pls ps).zip cs), hzc, List.map_append, List.flatten_append]
        rw [show ((some (z.cps.toList, c)).toList.map fun q : List Nat × Nat => bitsOf q.1 q.2).flatten = bitsOf z.cps.toList c from List.append_nil _]
    · rintro σ H5 ⟨rfl, nm, w6, w7, w8, hnm, rfl⟩
      rw [List.take_of_length_le (by rw [List.length_zip, Int.toNat_natCast, List.length_map]; exact Nat.le_trans (Nat.min_le_left _ _) (by unfold pls; rw [List.length_map]; exact Nat.le_refl _))] at hnm
      have hnm2 : nm = (numL g.1 (allBits (pls ps) cs) : Nat) := hnm
      refine ⟨_, rfl, .inl ⟨rfl, _, SqL.of hl3⟩, _, rfl, l, _, _, rfl, rfl, hl3, ?_, ?_⟩
      · rw [natsV_len, List.length_map, List.length_take]; omega
      refine ⟨fun b o e => by rw [upd_ne (nl b o e)]; exact s3 _ _ e, fun b o e hb => by rw [upd_ne hb]; exact k3 _ _ e hb, ?_, _, _, _, _, _, _, rfl⟩
      rw [upd_same, hnm2, natsV_snoc, List.take_succ, hg, List.map_append]; rfl
  · rintro σ H3 ⟨s3, k3, hl3, v3, v4, v5, v6, v7, v8, rfl⟩
    rw [List.take_of_length_le (by omega)] at hl3
    exact ⟨_, rfl, k _ _ s3 l0 hl3⟩
end
end My

/-! LD -/
namespace My
open PySem L2
local macro_rules | `(tactic| walk_at "side") => `(tactic| first | with_reducible rfl | assumption | rfl | decide | omega | exact cpow1 (by omega) (by omega) | exact cdiv (by omega) (by omega) | exact two_pos _ | exact SqL.of (by assumption) | exact SqT.of (by assumption) | exact TyX.base (TyOf.int _) | exact TyX.base (TyOf.bl _) | exact TyX.base TyOf.non | exact scal_opt _ _ | exact k_ii | exact k_bi | exact k_ni | exact k_ib | exact k_bb | exact TyX.base (TyOf.lst (by assumption)) | exact k_ll | exact k_lt)
local macro_rules | `(tactic| walk_at "p") => `(tactic| repeat (first | refine And.intro (by walk_at "side") ?_ | apply Exists.intro | refine iteN (by assumption) ?_ | refine iteP (by assumption) ?_ | refine iteN (by decide) ?_ | refine iteP (by decide) ?_))

theorem shS {z : Str} (h : PyData.strOk z = true) : SeqAt.shaped (.str z) = true := by simp [SeqAt.shaped, PyData.canLay0, PyData.depth, h]
theorem shI (i : Int) : SeqAt.shaped (.int i) = true := by simp [SeqAt.shaped, PyData.canLay0, PyData.depth]
theorem neS {K : PySem.W.Frag} {H : Hp} {z : Str} {Q : VK} (h : PyData.strOk z = true) (k : Q (.bl false) H) : rNeD K (.str z) (.str z) H Q := ⟨_, _, .str z, .str z, shS h, shS h, by rw [show PyData.eqv (.str z) (.str z) = true by simp [PyData.eqv]]; exact k⟩
theorem neI {K : PySem.W.Frag} {H : Hp} {i : Int} {Q : VK} (k : Q (.bl false) H) : rNeD K (.int i) (.int i) H Q := ⟨_, _, .int i, .int i, shI i, shI i, by rw [show PyData.eqv (.int i) (.int i) = true by simp [PyData.eqv]]; exact k⟩
theorem nameOk_ok {z : Str} (h : nameOk z) : PyData.strOk z = true := by
  unfold PyData.strOk
  rw [← Array.all_toList, List.all_eq_true]
  intro c hc
  have := (h.2.2 c hc).2
  exact decide_eq_true (by omega)
section
variable {P : Program} {w : World} {K : PySem.W.Frag} {mg : Str → Option Value} {base : Heap}
def DueAt (H : Hp) (d : Addr) (o : Option FM) (L : List Nat) : Prop :=
  match o with
  | none => ∃ nl, H d = some (.lst [.non, .ref nl, .int (L.length : Nat)])
  | some f => ∃ r nl, H d = some (.lst [.ref r, .ref nl, .int (L.length : Nat)]) ∧ RowP H r f ∧ H nl = some (.lst (natsV (numsM f.pl L)))
end
end My

/-! LE -/
namespace My
open PySem L2
local macro_rules | `(tactic| walk_at "side") => `(tactic| first | with_reducible rfl | assumption | rfl | decide | omega | exact cpow1 (by omega) (by omega) | exact cdiv (by omega) (by omega) | exact two_pos _ | exact SqL.of (by assumption) | exact SqT.of (by assumption) | exact TyX.base (TyOf.int _) | exact TyX.base (TyOf.bl _) | exact TyX.base TyOf.non | exact scal_opt _ _ | exact k_ii | exact k_bi | exact k_ni | exact k_ib | exact k_bb | exact TyX.base (TyOf.lst (by assumption)) | exact k_ll | exact k_lt)
local macro_rules | `(tactic| walk_at "p") => `(tactic| repeat (first | refine And.intro (by walk_at "side") ?_ | apply Exists.intro | refine iteN (by assumption) ?_ | refine iteP (by assumption) ?_ | refine iteN (by decide) ?_ | refine iteP (by decide) ?_))

def RowsAt (H : Hp) (a : Addr) (F : List FM) : Prop := ∃ ts, H a = some (.lst ts) ∧ Refs H ts F RowP
theorem RowsAt.news {H H' : Hp} {a : Addr} {F : List FM} (h : RowsAt H a F) (s : Same H H') : RowsAt H' a F := by
  obtain ⟨ts, h1, h2⟩ := h
  exact ⟨ts, s _ _ h1, h2.map fun u q _ r => r.news s⟩
def FormsOk (n : Nat) (F : List FM) : Prop := n ≤ 8 ∧ F.length ≤ 32 ∧ ∀ f ∈ F, 1 ≤ f.ps.length ∧ f.ps.length ≤ 3 ∧ ∀ z ∈ f.ps, z.length = n
theorem rowAt {f : FM} {cs : List Nat} {i : Nat} (hi : i < f.ps.length) (hc : i < cs.length) : ∃ z c, f.ps[i]? = some z ∧ cs[i]? = some c ∧ atI (f.ps.map V.str) (0 + (i : Int)) = some (.str z) ∧ atI (natsV cs) (0 + (i : Int)) = some (.int (c : Nat)) ∧ (f.pl.zip cs)[i]? = some (z.cps.toList, c) := by
  have hz := List.getElem?_eq_getElem hi
  have hcc := List.getElem?_eq_getElem hc
  have ei : (0 + (i : Int)) = (i : Int) := by omega
  refine ⟨_, _, hz, hcc, ?_, ?_, ?_⟩
  · rw [ei]; exact atI_nat (by rw [List.getElem?_map, hz]; rfl)
  · rw [ei]; exact atI_nat (by unfold natsV; rw [List.getElem?_map, hcc]; rfl)
  · exact List.getElem?_zip_eq_some.mpr ⟨by unfold FM.pl; rw [List.getElem?_map, hz]; rfl, hcc⟩
theorem zip_take {α β : Type} : ∀ (ps : List α) (cs : List β) (n : Nat), ps.length ≤ n → ps.zip (cs.take n) = ps.zip cs
  | [], _, _, _ => rfl
  | _ :: _, [], n, _ => by rw [List.take_nil]
  | p :: r, c :: d, 0, h => by simp at h
  | p :: r, c :: d, n + 1, h => by
    have := zip_take r d n (by simpa using h)
    rw [List.take_succ_cons, List.zip_cons_cons, List.zip_cons_cons, this]
section
variable {P : Program} {w : World} {K : PySem.W.Frag} {mg : Str → Option Value} {base : Heap}
def sp_law_decode (_ : Txt K mg) : Sp := fun vs H Q _ => ∃ (a b : Addr) (F : List FM) (cs : List Nat) (n : Nat) (o : Option FM) (L : List Nat), vs = [.ref a, .ref b] ∧ RowsAt H a F ∧ H b = some (.lst (natsV cs)) ∧ cs.length = 3 ∧ (∀ c ∈ cs, c < 2 ^ n) ∧ FormsOk n F ∧ decX F n (natsV cs) 3 [] = (some o, L) ∧ ∀ H' d, Same H H' → DueAt H' d o L → Q (.ref d) H'
theorem sp_law_decode_len {T : Txt K mg} {vs H Q E} (h : sp_law_decode T vs H Q E) : vs.length = 2 := by obtain ⟨_, _, _, _, _, _, _, rfl, _⟩ := h; rfl
theorem ok_law_decode (T : Txt K mg) : FnOk P w K mg base CX0 3 T.f_law_decode T.fd_law_decode ["_law_rows", "_law_cells"] (sp_law_decode T) := by
  have G_law_fits := ok_law_fits (P := P) (w := w) (base := base) T; have G_law_numbers := ok_law_numbers (P := P) (w := w) (base := base) T
  refine T.F_law_decode.ok sc_law_decode (fun vs H Q E h => sp_law_decode_len h) (fun cdv A outer s H vs Q E hr h => ?_)
  obtain ⟨a, b, F, cs, n, o, L, rfl, ⟨ts, ha, hR⟩, hb, c3, hcs, ⟨n8, f32, hF⟩, hd, k⟩ := h
  refine ⟨_, (pss_cons (ps_for PassesOwn.never rfl (pi_list (pe_lst (pa_cons pe_int (pa_cons pe_int (pa_cons pe_int pa_nil))))) (pg_name (i := 2) sc_law_decode.nd rfl (Or.inl rfl))
        (pss_cons (ps_set (i := 3) sc_law_decode.nd rfl (Or.inl rfl) pe_bl)
       (pss_cons (ps_for PassesOwn.never rfl (pi_list (pv 0)) (pg_name (i := 4) sc_law_decode.nd rfl (Or.inl rfl))
        (pss_cons (ps_set (i := 5) sc_law_decode.nd rfl (Or.inl rfl) pe_bl)
       (pss_cons (ps_for PassesOwn.never rfl (pi_range1 (by rfl) T.n_range (pa_cons (pe_callB (call_min2 rfl) (by rfl) T.n_min (by decide +kernel) (pa_cons (pv 2) (pa_cons (pe_callB call_lenL (by rfl) T.n_len (by decide +kernel) (pa_cons (pe_ix ix_tup (pv 4) pe_int (fun _ _ => rfl)) pa_nil)) pa_nil))) pa_nil)) (pg_name (i := 6) sc_law_decode.nd rfl (Or.inl rfl))
        (pss_one (ps_if (pt_not (pt_val (pe_call G_law_fits (hr.mono (by decide)) rfl T.g_law_fits T.F_law_fits.kp T.b_law_fits .nil pass0 (pa_cons (pe_ix ix_list (pe_ix ix_tup (pv 4) pe_int (fun _ _ => rfl)) (pv 6) (fun _ _ => rfl)) (pa_cons (pe_ix ix_list (pv 1) (pv 6) (fun _ _ => rfl)) pa_nil)))))
        (pss_one (ps_set (i := 5) sc_law_decode.nd rfl (Or.inl rfl) pe_bl))
        pss_nil)))
       (pss_cons (ps_if (PW.pt (pw_and (pt_val (pv 5)) (pw_and1 (pt_cmpR op_eq (pe_callB call_lenL (by rfl) T.n_len (by decide +kernel) (pa_cons (pe_ix ix_tup (pv 4) pe_int (fun _ _ => rfl)) pa_nil)) (pv 2) (nomark _)))))
        (pss_one (ps_ret (pe_lst (pa_cons (pv 4) (pa_cons (pe_call G_law_numbers hr rfl T.g_law_numbers T.F_law_numbers.kp T.b_law_numbers .nil pass0 (pa_cons (pe_ix ix_tup (pv 4) pe_int (fun _ _ => rfl)) (pa_cons (pv 1) pa_nil))) (pa_cons (pv 2) pa_nil))))))
        pss_nil)
       (pss_one (ps_if (PW.pt (pw_and (pt_val (pv 5)) (pw_and1 (pt_cmpR op_gt (pe_callB call_lenL (by rfl) T.n_len (by decide +kernel) (pa_cons (pe_ix ix_tup (pv 4) pe_int (fun _ _ => rfl)) pa_nil)) (pv 2) (nomark _)))))
        (pss_one (ps_set (i := 3) sc_law_decode.nd rfl (Or.inl rfl) pe_bl))
        pss_nil))))))
       (pss_one (ps_if (pt_not (pt_val (pv 3)))
        (pss_one (ps_ret (pe_lst (pa_cons pe_non (pa_cons (pe_lst pa_nil) (pa_cons (pv 2) pa_nil))))))
        pss_nil)))))
       (pss_one (ps_ret (pe_lst (pa_cons pe_non (pa_cons (pe_lst pa_nil) (pa_cons pe_int pa_nil))))))), ?_⟩
  have sz : sizeLine = 16777216 := sizeLine_eq
  have htl := hR.1
  refine ⟨by show 3 ≤ _; omega, fun bl bl0 => ?_⟩
  have s1 := same_new (o := .lst [.int 1, .int 2, .int 3]) bl0
  refine ⟨bl, rfl, ⟨_, SqL.of upd_same⟩, ?_⟩
  refine for_it (walk_list (xs := [.int 1, .int 2, .int 3])) (fun i σ H3 => H3 = upd H bl (.lst [.int 1, .int 2, .int 3]) ∧ decX F n (natsV cs) (3 - i) (cs.take i) = (some o, L) ∧ ∃ v2 v3 v4 v5 v6 : Option V, σ = [some (.ref a), some (.ref b), v2, v3, v4, v5, v6]) ⟨rfl, hd, none, none, none, none, none, rfl⟩ (fun i σ H3 _ ⟨e, _⟩ => by rw [e]; exact SqL.of upd_same) ?_ ?_
  · rintro i x σ H3 H4 hi ⟨e3, hdi, v2, v3, v4, v5, v6, rfl⟩ ⟨rfl, hx⟩
    have hi3 : i < 3 := hi
    have ex : x = V.int ((i + 1 : Nat) : Int) := by
      have : i = 0 ∨ i = 1 ∨ i = 2 := by omega
      rcases this with rfl | rfl | rfl <;> (cases hx; rfl)
    subst ex
    have hic : i < cs.length := by omega
    have hc := List.getElem?_eq_getElem hic
    have hcm : cs[i] ∈ cs := List.getElem_mem hic
    have hc2 := hcs _ hcm
    have htk : (cs.take i).length = i := by rw [List.length_take]; omega
    have hcw : cellW n (natsV cs)[(cs.take i).length]? = some cs[i] := by
      rw [htk]
      unfold natsV
      rw [List.getElem?_map, hc]
      show (if (0 : Int) ≤ (cs[i] : Nat) ∧ ((cs[i] : Nat) : Int) < 2 ^ n then _ else _) = _
      have e2 : ((2 ^ n : Nat) : Int) = 2 ^ n := Int.natCast_pow 2 n
      rw [if_pos ⟨by omega, by omega⟩, Int.toNat_natCast]
    have hsn : cs.take i ++ [cs[i]] = cs.take (i + 1) := by rw [List.take_succ, hc]; rfl
    obtain ⟨kk, hkk⟩ : ∃ kk, 3 - i = kk + 1 := ⟨2 - i, by omega⟩
    rw [hkk, decX, hcw] at hdi
    dsimp only at hdi
    rw [hsn] at hdi
    generalize hL' : cs.take (i + 1) = L' at hdi
    have hl' : L'.length = i + 1 := by rw [← hL', List.length_take]; omega
    have s4 : Same H H4 := by rw [e3]; exact s1
    have ha4 := s4 _ _ ha
    have hb4 := s4 _ _ hb
    refine ⟨_, rfl, a, rfl, ⟨_, SqL.of ha4⟩, ?_⟩
    refine for_it (walk_list (xs := ts)) (fun j σ H5 => H5 = H4 ∧ (F.take j).find? (fitsAt L') = none ∧ ∃ v4 v5 v6 : Option V, σ = [some (.ref a), some (.ref b), some (.int ((i + 1 : Nat) : Int)), some (.bl (goesM (F.take j) L')), v4, v5, v6]) ⟨rfl, by simp, v4, v5, v6, rfl⟩ (fun j σ H5 _ ⟨e, _⟩ => by rw [e]; exact SqL.of ha4) ?_ ?_
    · rintro j x σ H5 H6 hj ⟨rfl, hfn, w4, w5, w6, rfl⟩ ⟨rfl, hx⟩
      obtain ⟨t, f, hf, hu, hr⟩ := hR.at (i := j) (by omega)
      rw [hu] at hx
      cases hx
      have hfm := List.mem_of_getElem? hf
      obtain ⟨f1, f3, fz⟩ := hF f hfm
      have hr4 := hr.news s4
      obtain ⟨pa, la, ht, hpa, hla⟩ := hr.news s4
      have hnn : (if ((f.ps.map V.str).length : Int) < ((i + 1 : Nat) : Int) then ((f.ps.map V.str).length : Int) else ((i + 1 : Nat) : Int)) = ((f.pl.zip L').length : Nat) := by
        rw [List.length_zip, hl', List.length_map]
        unfold FM.pl
        rw [List.length_map]
        split <;> omega
      refine ⟨_, rfl, _, rfl, t, _, _, _, rfl, rfl, SqT.of ht, rfl, pa, _, rfl, SqL.of hpa, _, _, rfl, _, rfl, ?_⟩
      rw [hnn]
      have hzl : (f.pl.zip L').length ≤ 3 := by rw [List.length_zip]; unfold FM.pl; rw [List.length_map]; omega
      refine ⟨by omega, by omega, ?_⟩
      refine for_range (lo := 0) (n := (((f.pl.zip L').length : Nat) : Int).toNat) (fun at' σ H7 => H7 = H6 ∧ ∃ v6 : Option V, σ = [some (.ref a), some (.ref b), some (.int ((i + 1 : Nat) : Int)), some (.bl (goesM (F.take j) L')), some (.ref t), some (.bl (((f.pl.zip L').take at').all fun q => fitB q.1 q.2)), v6]) ⟨rfl, w6, by simp⟩ ?_ ?_
      · rintro i' σ H7 hi' ⟨rfl, w5, rfl⟩
        rw [Int.toNat_natCast, List.length_zip] at hi'
        have hi1 : i' < f.ps.length := by unfold FM.pl at hi'; rw [List.length_map] at hi'; omega
        have hi2 : i' < L'.length := by omega
        obtain ⟨z, c, hz, hcc, hzat, hcat, hzc⟩ := rowAt (cs := L') hi1 hi2
        have hcat' : atI (natsV cs) (0 + (i' : Int)) = some (.int (c : Nat)) := by
          rw [show (0 + (i' : Int)) = (i' : Int) by omega]
          refine atI_nat ?_
          rw [← hL', List.getElem?_take, if_pos (by omega)] at hcc
          unfold natsV
          rw [List.getElem?_map, hcc]; rfl
        have hzn := fz z (List.mem_of_getElem? hz)
        refine ⟨_, rfl, t, _, _, _, rfl, rfl, SqT.of ht, rfl, _, rfl, pa, _, _, _, rfl, rfl, SqL.of hpa, hzat, _, rfl, _, rfl, b, _, _, _, rfl, rfl, SqL.of hb4, hcat', z, c, rfl, by omega, _, rfl, ?_⟩
        have e2 : ((f.pl.zip L').take (i' + 1)).all (fun q => fitB q.1 q.2) = (((f.pl.zip L').take i').all (fun q => fitB q.1 q.2) && fitB z.cps.toList c) := by
          rw [List.take_succ, hzc, List.all_append]
          simp
        rw [e2]
        cases hft : fitB z.cps.toList c with
        | true =>
          refine iteN (by decide) ?_
          rw [Bool.and_true]
          exact ⟨rfl, _, rfl⟩
        | false =>
          refine iteP (by decide) ?_
          rw [Bool.and_false]
          exact ⟨rfl, _, rfl⟩
      · rintro σ H7 ⟨rfl, w5, rfl⟩
        rw [List.take_of_length_le (l := f.pl.zip L') (by rw [Int.toNat_natCast]; exact Nat.le_refl _)]
        have em : ((f.pl.zip L').all fun q => fitB q.1 q.2) = mayB f.pl L' := rfl
        rw [em]
        have eg : goesM (F.take (j + 1)) L' = (goesM (F.take j) L' || (decide (L'.length < f.ps.length) && mayB f.pl L')) := by
          unfold goesM
          rw [List.take_succ, hf, List.any_append]
          simp
        have el : decide (V.int ((f.ps.map V.str).length : Nat) = V.int ((i + 1 : Nat) : Int)) = (f.ps.length == L'.length) := by
          rw [List.length_map, hl']
          by_cases e : f.ps.length = i + 1
          · simp [e]
          · have : ¬ V.int (f.ps.length : Nat) = V.int ((i + 1 : Nat) : Int) := fun h => e (Int.ofNat.inj (V.int.inj h))
            rw [decide_eq_false this]; simp [e]
        have hkeep : fitsAt L' f = false → (F.take (j + 1)).find? (fitsAt L') = none := fun e => by
          rw [List.take_succ, hf, List.find?_append, hfn]
          simp [e]
        cases hm : mayB f.pl L' with
        | false =>
          have hnf : fitsAt L' f = false := by unfold fitsAt; rw [hm, Bool.and_false]
          rw [hm, Bool.and_false, Bool.or_false] at eg
          refine ⟨_, rfl, _, rfl, iteN (by decide) (iteN (by decide) ?_)⟩
          refine ⟨_, rfl, _, rfl, iteN (by decide) (iteN (by decide) ?_)⟩
          refine ⟨rfl, hkeep hnf, some (.ref t), some (.bl false), w5, ?_⟩
          rw [eg]
        | true =>
          rw [hm, Bool.and_true] at eg
          by_cases hlen : f.ps.length = L'.length
          · have hfit : fitsAt L' f = true := by unfold fitsAt; rw [hm, hlen]; simp
            have hfa : formAt F L' = some f := find_take hf hfn hfit
            rw [hfa] at hdi
            dsimp only at hdi
            cases hdi
            refine ⟨_, rfl, _, rfl, iteP rfl ?_⟩
            refine ⟨_, rfl, t, _, _, _, rfl, rfl, SqT.of ht, rfl, pa, _, rfl, SqL.of hpa, _, rfl, rfl, _, rfl, iteP (by rw [el, hlen]; simp) ?_⟩
            refine ⟨_, rfl, _, rfl, t, _, _, _, rfl, rfl, SqT.of ht, rfl, _, rfl, pa, b, f.ps, cs, rfl, hpa, hb4, by omega, f3, fun z hz => by rw [fz z hz]; omega, fun H8 q s8 q0 hq => ?_⟩
            refine ⟨_, rfl, by show 3 ≤ _; omega, fun dd dd0 => ?_⟩
            have s9 := same_new (o := .lst [.ref t, .ref q, .int ((i + 1 : Nat) : Int)]) dd0
            refine k _ dd ((s4.trans s8).trans s9) ⟨t, q, ?_, (hr4.news s8).news s9, ?_⟩
            · rw [upd_same, hl']
            · rw [s9 _ _ hq]
              have : numsM (pls f.ps) cs = numsM f.pl L := by
                unfold numsM allBits
                rw [show pls f.ps = f.pl from rfl, ← hL', zip_take _ _ _ (by rw [show f.pl.length = f.ps.length by unfold FM.pl; rw [List.length_map]]; omega)]
              rw [this]
          · have hnf : fitsAt L' f = false := by unfold fitsAt; rw [beq_false_of_ne hlen]; rfl
            refine ⟨_, rfl, _, rfl, iteP rfl ?_⟩
            refine ⟨_, rfl, t, _, _, _, rfl, rfl, SqT.of ht, rfl, pa, _, rfl, SqL.of hpa, _, rfl, rfl, _, rfl, iteN (by rw [el]; simp [hlen]) ?_⟩
            refine ⟨_, rfl, _, rfl, iteP rfl ?_⟩
            refine ⟨_, rfl, t, _, _, _, rfl, rfl, SqT.of ht, rfl, pa, _, rfl, SqL.of hpa, _, rfl, _, _, rfl, rfl, _, rfl, ?_⟩
            have el2 : decide (((i + 1 : Nat) : Int) < ((f.ps.map V.str).length : Nat)) = decide (L'.length < f.ps.length) := by
              rw [List.length_map, hl']; exact decide_eq_decide.mpr (by omega)
            rw [el2]
            refine iteB (fun e => ?_) fun e => ?_
            · rw [e, Bool.or_true] at eg
              refine ⟨rfl, hkeep hnf, some (.ref t), some (.bl true), w5, ?_⟩
              rw [eg]
              try rfl
            · rw [e, Bool.or_false] at eg
              refine ⟨rfl, hkeep hnf, some (.ref t), some (.bl true), w5, ?_⟩
              rw [eg]
              try rfl
    · rintro σ H5 ⟨rfl, hfn, w4, w5, w6, rfl⟩
      rw [List.take_of_length_le (by omega)] at hfn ⊢
      rw [show formAt F L' = none from hfn] at hdi
      dsimp only at hdi
      refine ⟨_, rfl, _, rfl, ?_⟩
      cases hg : goesM F L' with
      | true =>
        rw [hg, if_pos rfl] at hdi
        refine iteN (by decide) ?_
        refine ⟨e3, ?_, _, _, _, _, _, rfl⟩
        rw [show 3 - (i + 1) = kk by omega]
        exact hdi
      | false =>
        rw [hg, if_neg (by decide)] at hdi
        cases hdi
        refine iteP (by decide) ?_
        refine ⟨Nat.zero_le _, fun q q0 => ?_⟩
        have s8 := same_new (o := .lst []) q0
        refine ⟨_, rfl, by show 3 ≤ _; omega, fun dd dd0 => ?_⟩
        have s9 := same_new (o := .lst [.non, .ref q, .int ((i + 1 : Nat) : Int)]) dd0
        refine k _ dd ((s4.trans s8).trans s9) ⟨q, ?_⟩
        rw [upd_same, hl']
  · rintro σ H3 ⟨rfl, hdi, v2, v3, v4, v5, v6, rfl⟩
    rw [show 3 - [V.int 1, V.int 2, V.int 3].length = 0 from rfl, decX] at hdi
    cases hdi
    refine ⟨Nat.zero_le _, fun q q0 => ?_⟩
    have s8 := same_new (o := .lst []) q0
    refine ⟨by show 3 ≤ _; omega, fun dd dd0 => ?_⟩
    have s9 := same_new (o := .lst [.non, .ref q, .int 3]) dd0
    refine k _ dd ((s1.trans s8).trans s9) ⟨q, ?_⟩
    rw [upd_same, show (cs.take [V.int 1, V.int 2, V.int 3].length).length = 3 by rw [List.length_take]; show min 3 _ = 3; omega]
    rfl
end
end My

/-! LF -/
namespace My
open PySem L2
local macro_rules | `(tactic| walk_at "side") => `(tactic| first | with_reducible rfl | assumption | rfl | decide | omega | exact cpow1 (by omega) (by omega) | exact cdiv (by omega) (by omega) | exact two_pos _ | exact SqL.of (by assumption) | exact SqT.of (by assumption) | exact TyX.base (TyOf.int _) | exact TyX.base (TyOf.bl _) | exact TyX.base TyOf.non | exact scal_opt _ _ | exact k_ii | exact k_bi | exact k_ni | exact k_ib | exact k_bb | exact TyX.base (TyOf.lst (by assumption)) | exact k_ll | exact k_lt)
local macro_rules | `(tactic| walk_at "p") => `(tactic| repeat (first | refine And.intro (by walk_at "side") ?_ | apply Exists.intro | refine iteN (by assumption) ?_ | refine iteP (by assumption) ?_ | refine iteN (by decide) ?_ | refine iteP (by decide) ?_))

/-- all that was there but p -/
def KP (p : Addr) (H H' : Hp) : Prop := ∀ b o, H b = some o → b ≠ p → H' b = some o
theorem KP.of {p : Addr} {H H' : Hp} (s : Same H H') : KP p H H' := fun b o e _ => s b o e
theorem KP.trans {p : Addr} {H H' H'' : Hp} (s : KP p H H') (t : KP p H' H'') : KP p H H'' := fun b o e hb => t b o (s b o e hb) hb
theorem lettersM_bits (ps : List Str) (n : Nat) (h : ∀ z ∈ ps, z.length = n) (h3 : ps.length ≤ 3) (n8 : n ≤ 8) : ∀ q ∈ lettersM (pls ps), q.2 ≤ 24 := by
  intro q hq
  unfold lettersM at hq
  obtain ⟨c, _, rfl⟩ := List.mem_map.mp hq
  show List.count c (pls ps).flatten ≤ 24
  refine Nat.le_trans (List.count_le_length) ?_
  have : ∀ l : List Str, (∀ z ∈ l, z.length = n) → (pls l).flatten.length = l.length * n := fun l => by
    induction l with
    | nil => intro _; simp [pls]
    | cons z r ih =>
      intro hz
      have e1 := ih fun y hy => hz y (by simp [hy])
      have e2 := hz z (by simp)
      unfold pls at e1 ⊢
      rw [List.map_cons, List.flatten_cons, List.length_append, e1, List.length_cons, Nat.succ_mul, Array.length_toList]
      have : z.cps.size = z.length := rfl
      omega
  rw [this ps h]
  have := Nat.mul_le_mul h3 n8
  omega
section
variable {P : Program} {w : World} {K : PySem.W.Frag} {mg : Str → Option Value} {base : Heap}
end
end My

/-! LG -/
namespace My
open PySem L2
local macro_rules | `(tactic| walk_at "side") => `(tactic| first | with_reducible rfl | assumption | rfl | decide | omega | exact cpow1 (by omega) (by omega) | exact cdiv (by omega) (by omega) | exact two_pos _ | exact SqL.of (by assumption) | exact SqT.of (by assumption) | exact TyX.base (TyOf.int _) | exact TyX.base (TyOf.bl _) | exact TyX.base TyOf.non | exact scal_opt _ _ | exact k_ii | exact k_bi | exact k_ni | exact k_ib | exact k_bb | exact TyX.base (TyOf.lst (by assumption)) | exact k_ll | exact k_lt)
local macro_rules | `(tactic| walk_at "p") => `(tactic| repeat (first | refine And.intro (by walk_at "side") ?_ | apply Exists.intro | refine iteN (by assumption) ?_ | refine iteP (by assumption) ?_ | refine iteN (by decide) ?_ | refine iteP (by decide) ?_))

def okP (c d : Nat) : Bool := !(c == 48 && d == 49) && !(c == 49 && d == 48)
def clashP (x y : List Nat) : Bool := (x.zip y).all fun q => okP q.1 q.2
def clashB (ps qs : List (List Nat)) : Bool := (ps.zip qs).all fun q => clashP q.1 q.2
theorem sg2 (c d : Nat) : (sg c ++ sg d : Str) = ⟨#[c, d]⟩ := by
  show (⟨#[c] ++ #[d]⟩ : Str) = _
  congr 1
theorem pairV (c d x y : Nat) : decide (V.str (sg c ++ sg d) = V.str ⟨#[x, y]⟩) = (c == x && d == y) := by
  rw [sg2]
  by_cases h : c = x ∧ d = y
  · rw [h.1, h.2]; simp
  · rw [decide_eq_false]
    · have : ¬ (c == x && d == y) = true := fun e => h ⟨eq_of_beq (Bool.and_eq_true _ _ ▸ e).1, eq_of_beq (Bool.and_eq_true _ _ ▸ e).2⟩
      exact (Bool.eq_false_iff.mpr this).symm
    · intro z
      have := V.str.inj z
      simp at this
      exact h this
section
variable {P : Program} {w : World} {K : PySem.W.Frag} {mg : Str → Option Value} {base : Heap}
def sp_law_clash (_ : Txt K mg) : Sp := fun vs H Q _ => ∃ (a b : Addr) (ps qs : List Str) (n : Nat), vs = [.ref a, .ref b] ∧ H a = some (.lst (ps.map V.str)) ∧ H b = some (.lst (qs.map V.str)) ∧ ps.length ≤ 3 ∧ qs.length ≤ 3 ∧ n ≤ 8 ∧ (∀ z ∈ ps, z.length = n) ∧ (∀ z ∈ qs, z.length = n) ∧ Q (.bl (clashB (pls ps) (pls qs))) H
theorem sp_law_clash_len {T : Txt K mg} {vs H Q E} (h : sp_law_clash T vs H Q E) : vs.length = 2 := by obtain ⟨_, _, _, _, _, rfl, _⟩ := h; rfl
theorem ok_law_clash (T : Txt K mg) : FnOk P w K mg base CX0 1 T.f_law_clash T.fd_law_clash ["_law_one", "_law_other"] (sp_law_clash T) := by
  skip
  refine T.F_law_clash.ok sc_law_clash (fun vs H Q E h => sp_law_clash_len h) (fun cdv A outer s H vs Q E hr h => ?_)
  obtain ⟨a, b, ps, qs, n, rfl, ha, hb, p3, q3, n8, hpz, hqz, k⟩ := h
  refine ⟨_, (pss_cons (ps_for PassesOwn.never rfl (pi_range1 (by rfl) T.n_range (pa_cons (pe_callB (call_min2 rfl) (by rfl) T.n_min (by decide +kernel) (pa_cons (pe_callB call_lenL (by rfl) T.n_len (by decide +kernel) (pa_cons (pv 0) pa_nil)) (pa_cons (pe_callB call_lenL (by rfl) T.n_len (by decide +kernel) (pa_cons (pv 1) pa_nil)) pa_nil))) pa_nil)) (pg_name (i := 2) sc_law_clash.nd rfl (Or.inl rfl))
        (pss_one (ps_for PassesOwn.never rfl (pi_range1 (by rfl) T.n_range (pa_cons (pe_callB call_len_str (by rfl) T.n_len (by decide +kernel) (pa_cons (pe_ix ix_list (pv 0) (pv 2) (fun _ _ => rfl)) pa_nil)) pa_nil)) (pg_name (i := 3) sc_law_clash.nd rfl (Or.inl rfl))
        (pss_cons (ps_set (i := 4) sc_law_clash.nd rfl (Or.inl rfl) (pe_op op_add_str (pe_ix ix_str (pe_ix ix_list (pv 0) (pv 2) (fun _ _ => rfl)) (pv 3) (fun _ _ => rfl)) (pe_ix ix_str (pe_ix ix_list (pv 1) (pv 2) (fun _ _ => rfl)) (pv 3) (fun _ _ => rfl))))
       (pss_one (ps_if (PW.pt (pw_or (pt_cmpR op_eq (pv 4) pe_str (nomark _)) (pw_or1 (pt_cmpR op_eq (pv 4) pe_str (nomark _)))))
        (pss_one (ps_ret pe_bl))
        pss_nil))))))
       (pss_one (ps_ret pe_bl))), ?_⟩
  have sz : sizeLine = 16777216 := sizeLine_eq
  have hnn : (if ((qs.map V.str).length : Int) < ((ps.map V.str).length : Nat) then ((qs.map V.str).length : Int) else ((ps.map V.str).length : Nat)) = (((pls ps).zip (pls qs)).length : Nat) := by
    rw [List.length_zip, List.length_map, List.length_map]
    unfold pls
    rw [List.length_map, List.length_map]
    split <;> omega
  refine ⟨_, rfl, a, _, rfl, SqL.of ha, _, rfl, b, _, rfl, SqL.of hb, _, _, rfl, ?_⟩
  rw [hnn]
  have hzl : ((pls ps).zip (pls qs)).length ≤ 3 := by rw [List.length_zip]; unfold pls; rw [List.length_map]; omega
  refine ⟨_, rfl, by omega, by omega, ?_⟩
  refine for_range (lo := 0) (n := ((((pls ps).zip (pls qs)).length : Nat) : Int).toNat) (fun i σ H1 => H1 = H ∧ ((((pls ps).zip (pls qs)).take i).all fun q => clashP q.1 q.2) = true ∧ ∃ v2 v3 v4 : Option V, σ = [some (.ref a), some (.ref b), v2, v3, v4]) ⟨rfl, by simp, none, none, none, rfl⟩ ?_ ?_
  · rintro i σ H1 hi ⟨rfl, hall, v2, v3, v4, rfl⟩
    rw [Int.toNat_natCast, List.length_zip] at hi
    have hi1 : i < ps.length := by unfold pls at hi; rw [List.length_map, List.length_map] at hi; omega
    have hi2 : i < qs.length := by unfold pls at hi; rw [List.length_map, List.length_map] at hi; omega
    have hx := List.getElem?_eq_getElem hi1
    have hy := List.getElem?_eq_getElem hi2
    generalize ps[i] = x at hx
    generalize qs[i] = y at hy
    have ei : (0 + (i : Int)) = (i : Int) := by omega
    have hxat : atI (ps.map V.str) (0 + (i : Int)) = some (.str x) := by rw [ei]; exact atI_nat (by rw [List.getElem?_map, hx]; rfl)
    have hyat : atI (qs.map V.str) (0 + (i : Int)) = some (.str y) := by rw [ei]; exact atI_nat (by rw [List.getElem?_map, hy]; rfl)
    have hxy : ((pls ps).zip (pls qs))[i]? = some (x.cps.toList, y.cps.toList) := List.getElem?_zip_eq_some.mpr ⟨by unfold pls; rw [List.getElem?_map, hx]; rfl, by unfold pls; rw [List.getElem?_map, hy]; rfl⟩
    have xn := hpz x (List.mem_of_getElem? hx)
    have yn := hqz y (List.mem_of_getElem? hy)
    have xl : x.cps.toList.length = x.length := by rw [Array.length_toList]; rfl
    have yl : y.cps.toList.length = y.length := by rw [Array.length_toList]; rfl
    refine ⟨_, rfl, _, rfl, a, _, _, .str x, rfl, rfl, SqL.of ha, hxat, x, rfl, by omega, _, rfl, by omega, by omega, ?_⟩
    refine for_range (lo := 0) (n := ((x.length : Nat) : Int).toNat) (fun k σ H2 => H2 = H1 ∧ (((x.cps.toList.zip y.cps.toList).take k).all fun q => okP q.1 q.2) = true ∧ ∃ v3 v4 : Option V, σ = [some (.ref a), some (.ref b), some (.int (0 + (i : Int))), v3, v4]) ⟨rfl, by simp, v3, v4, rfl⟩ ?_ ?_
    · rintro kk σ H2 hk ⟨rfl, hall2, w3, w4, rfl⟩
      rw [Int.toNat_natCast] at hk
      have hk1 : kk < x.cps.toList.length := by omega
      have hk2 : kk < y.cps.toList.length := by omega
      have hc := List.getElem?_eq_getElem hk1
      have hd := List.getElem?_eq_getElem hk2
      generalize x.cps.toList[kk] = c at hc
      generalize y.cps.toList[kk] = d at hd
      have hcd : (x.cps.toList.zip y.cps.toList)[kk]? = some (c, d) := List.getElem?_zip_eq_some.mpr ⟨hc, hd⟩
      have ek : (0 + (kk : Int)) = (kk : Int) := by omega
      have hcat : atI x.cps.toList (0 + (kk : Int)) = some c := by rw [ek]; exact atI_nat hc
      have hdat : atI y.cps.toList (0 + (kk : Int)) = some d := by rw [ek]; exact atI_nat hd
      refine ⟨_, rfl, _, rfl, a, _, _, .str x, rfl, rfl, SqL.of ha, hxat, _, rfl, x, _, c, rfl, rfl, by omega, hcat, _, rfl, _, rfl, b, _, _, .str y, rfl, rfl, SqL.of hb, hyat, _, rfl, y, _, d, rfl, rfl, by omega, hdat, sg c, sg d, rfl, rfl, by show 1 + 1 ≤ _; omega, ?_⟩
      have bad : okP c d = false → Q (.bl false) H2 := fun e => by
        have : clashB (pls ps) (pls qs) = false := by
          unfold clashB
          rw [List.all_eq_false]
          refine ⟨_, List.mem_of_getElem? hxy, ?_⟩
          show ¬ clashP x.cps.toList y.cps.toList = true
          have : clashP x.cps.toList y.cps.toList = false := by
            unfold clashP
            rw [List.all_eq_false]
            exact ⟨_, List.mem_of_getElem? hcd, by show ¬ okP c d = true; rw [e]; decide⟩
          rw [this]; decide
        rw [this] at k
        exact k
      refine ⟨_, rfl, rfl, _, rfl, ?_⟩
      rw [show decide (V.str (sg c ++ sg d) = V.str "01") = (c == 48 && d == 49) from pairV c d 48 49]
      refine iteB (fun e => ?_) fun e => ?_
      · refine iteP rfl (bad ?_)
        unfold okP; rw [e]; rfl
      refine ⟨_, rfl, rfl, _, rfl, ?_⟩
      rw [show decide (V.str (sg c ++ sg d) = V.str "10") = (c == 49 && d == 48) from pairV c d 49 48]
      refine iteB (fun e2 => ?_) fun e2 => ?_
      · refine bad ?_
        unfold okP; rw [e2, Bool.not_true, Bool.and_false]
      refine ⟨rfl, ?_, _, _, rfl⟩
      rw [List.take_succ, hcd, List.all_append, hall2]
      show (true && ((okP c d) && true)) = true
      unfold okP; rw [e, e2]; rfl
    · rintro σ H2 ⟨rfl, hall2, w3, w4, rfl⟩
      rw [List.take_of_length_le (by rw [List.length_zip, Int.toNat_natCast, xl]; exact Nat.min_le_left _ _)] at hall2
      refine ⟨rfl, ?_, _, _, _, rfl⟩
      rw [List.take_succ, hxy, List.all_append, hall]
      show (true && ((clashP x.cps.toList y.cps.toList) && true)) = true
      unfold clashP
      rw [hall2]; rfl
  · rintro σ H1 ⟨rfl, hall, v2, v3, v4, rfl⟩
    rw [List.take_of_length_le (by rw [Int.toNat_natCast]; exact Nat.le_refl _)] at hall
    have : clashB (pls ps) (pls qs) = true := hall
    rw [this] at k
    exact k
def sp_law_apart (_ : Txt K mg) : Sp := fun vs H Q _ => ∃ (a : Addr) (F : List FM) (n : Nat), vs = [.ref a] ∧ RowsAt H a F ∧ FormsOk n F ∧ ∀ H' l G, Same H H' → RowsAt H' l G → G.Sublist F → G.Pairwise (fun g f => clashB f.pl g.pl = false) → (1 ≤ F.length → 1 ≤ G.length) → Q (.ref l) H'
theorem sp_law_apart_len {T : Txt K mg} {vs H Q E} (h : sp_law_apart T vs H Q E) : vs.length = 1 := by obtain ⟨_, _, _, rfl, _⟩ := h; rfl
theorem ok_law_apart (T : Txt K mg) : FnOk P w K mg base CX0 2 T.f_law_apart T.fd_law_apart ["_law_rows"] (sp_law_apart T) := by
  have G_law_clash := ok_law_clash (P := P) (w := w) (base := base) T
  refine T.F_law_apart.ok sc_law_apart (fun vs H Q E h => sp_law_apart_len h) (fun cdv A outer s H vs Q E hr h => ?_)
  obtain ⟨a, F, n, rfl, ⟨ts, ha, hR⟩, ⟨n8, f32, hF⟩, k⟩ := h
  refine ⟨_, (pss_cons (ps_set (i := 1) sc_law_apart.nd rfl (Or.inl rfl) (pe_lst pa_nil))
       (pss_cons (ps_for PassesOwn.never rfl (pi_list (pv 0)) (pg_name (i := 2) sc_law_apart.nd rfl (Or.inl rfl))
        (pss_cons (ps_set (i := 3) sc_law_apart.nd rfl (Or.inl rfl) pe_bl)
       (pss_cons (ps_for PassesOwn.never rfl (pi_list (pv 1)) (pg_name (i := 4) sc_law_apart.nd rfl (Or.inl rfl))
        (pss_one (ps_if (pt_val (pe_call G_law_clash hr rfl T.g_law_clash T.F_law_clash.kp T.b_law_clash .nil pass0 (pa_cons (pe_ix ix_tup (pv 2) pe_int (fun _ _ => rfl)) (pa_cons (pe_ix ix_tup (pv 4) pe_int (fun _ _ => rfl)) pa_nil))))
        (pss_one (ps_set (i := 3) sc_law_apart.nd rfl (Or.inl rfl) pe_bl))
        pss_nil)))
       (pss_one (ps_if (pt_val (pv 3))
        (pss_one (ps_expr (pe_bm PySem.F.plainAttrs_list PySem.F.slot_list_append PySem.F.type_list_append mt_append (pv 1) (pa_cons (pv 2) pa_nil))))
        pss_nil)))))
       (pss_one (ps_ret (pv 1))))), ?_⟩
  have sz : sizeLine = 16777216 := sizeLine_eq
  have htl := hR.1
  refine ⟨Nat.zero_le _, fun l l0 => ?_⟩
  have nl : ∀ b o, H b = some o → b ≠ l := fun b o e z => by rw [z, l0] at e; cases e
  refine ⟨_, rfl, a, rfl, ⟨_, SqL.of (same_new l0 _ _ ha)⟩, ?_⟩
  refine for_it (walk_list (xs := ts)) (fun j σ H3 => Same H H3 ∧ (∃ us G, H3 l = some (.lst us) ∧ Refs H us G RowP ∧ G.Sublist (F.take j) ∧ G.Pairwise (fun g f => clashB f.pl g.pl = false) ∧ (1 ≤ j → 1 ≤ G.length)) ∧ ∃ v2 v3 v4 : Option V, σ = [some (.ref a), some (.ref l), v2, v3, v4])
    ⟨same_new l0, ⟨[], [], upd_same, Refs.nil, List.Sublist.refl _, List.Pairwise.nil, fun h => by omega⟩, none, none, none, rfl⟩ (fun j σ H3 _ ⟨s3, _⟩ => SqL.of (s3 _ _ ha)) ?_ ?_
  · rintro j x σ H3 H4 hj ⟨s3, ⟨us, G, hl3, hU, hsub, hpw, h1⟩, v2, v3, v4, rfl⟩ ⟨rfl, hx⟩
    obtain ⟨t, f, hf, hu, hr⟩ := hR.at (i := j) (by omega)
    rw [hu] at hx
    cases hx
    have hfm := List.mem_of_getElem? hf
    obtain ⟨f1, f3, fz⟩ := hF f hfm
    obtain ⟨pa, la, ht, hpa, hla⟩ := hr.news s3
    have hul := hU.1
    refine ⟨_, rfl, l, rfl, ⟨_, SqL.of hl3⟩, ?_⟩
    refine for_it (walk_list (xs := us)) (fun i σ H5 => H5 = H4 ∧ ∃ v4 : Option V, σ = [some (.ref a), some (.ref l), some (.ref t), some (.bl ((G.take i).all fun g => !clashB f.pl g.pl)), v4]) ⟨rfl, v4, by simp⟩ (fun i σ H5 _ ⟨e, _⟩ => by rw [e]; exact SqL.of hl3) ?_ ?_
    · rintro i x σ H5 H6 hi ⟨rfl, w4, rfl⟩ ⟨rfl, hx⟩
      obtain ⟨t2, g, hg, hu2, hr2⟩ := hU.at (i := i) (by omega)
      rw [hu2] at hx
      cases hx
      have hgm : g ∈ F := List.mem_of_mem_take (hsub.subset (List.mem_of_getElem? hg))
      obtain ⟨g1, g3, gz⟩ := hF g hgm
      obtain ⟨pa2, la2, ht2, hpa2, hla2⟩ := hr2.news s3
      refine ⟨_, rfl, t, _, _, _, rfl, rfl, SqT.of ht, rfl, _, rfl, t2, _, _, _, rfl, rfl, SqT.of ht2, rfl, pa, pa2, f.ps, g.ps, n, rfl, hpa, hpa2, f3, g3, n8, fz, gz, _, rfl, ?_⟩
      have e2 : ((G.take (i + 1)).all fun g => !clashB f.pl g.pl) = (((G.take i).all fun g => !clashB f.pl g.pl) && !clashB f.pl g.pl) := by
        rw [List.take_succ, hg, List.all_append]
        simp
      rw [e2]
      have ec : clashB (pls f.ps) (pls g.ps) = clashB f.pl g.pl := rfl
      rw [ec]
      refine iteB (fun e => ?_) fun e => ?_
      · rw [e, Bool.not_true, Bool.and_false]
        exact ⟨rfl, _, rfl⟩
      · rw [e, Bool.not_false, Bool.and_true]
        exact ⟨rfl, _, rfl⟩
    · rintro σ H5 ⟨rfl, w4, rfl⟩
      rw [List.take_of_length_le (l := G) (by omega)]
      have ef : F.take (j + 1) = F.take j ++ [f] := by rw [List.take_succ, hf]; rfl
      refine ⟨_, rfl, _, rfl, iteB (fun e => ?_) fun e => ?_⟩
      · have gl : G.length ≤ 32 := Nat.le_trans hsub.length_le (Nat.le_trans (List.length_take_le' _ _) f32)
        refine ⟨_, rfl, .inl ⟨rfl, _, SqL.of hl3⟩, _, rfl, l, _, _, rfl, rfl, hl3, by omega, ?_⟩
        refine ⟨fun b o e => by rw [upd_ne (nl b o e)]; exact s3 _ _ e, ⟨_, G ++ [f], upd_same, hU.snoc hr, ?_, ?_, fun _ => by simp⟩, _, _, _, rfl⟩
        · rw [ef]; exact hsub.append (List.Sublist.refl _)
        · rw [List.pairwise_append]
          refine ⟨hpw, List.pairwise_singleton _ _, fun g hg f' hf' => ?_⟩
          rw [List.mem_singleton.mp hf']
          have := List.all_eq_true.mp e g hg
          cases h : clashB f.pl g.pl with
          | false => rfl
          | true => rw [h] at this; cases this
      · refine ⟨s3, ⟨us, G, hl3, hU, ?_, hpw, fun _ => ?_⟩, _, _, _, rfl⟩
        · rw [ef]; exact hsub.trans (List.sublist_append_left _ _)
        · obtain ⟨g, hg, _⟩ := List.all_eq_false.mp e
          exact List.length_pos_of_mem hg
  · rintro σ H3 ⟨s3, ⟨us, G, hl3, hU, hsub, hpw, h1⟩, v2, v3, v4, rfl⟩
    rw [List.take_of_length_le (by omega)] at hsub
    exact ⟨_, rfl, k _ _ G s3 ⟨us, hl3, hU.map fun u x _ h => h.news s3⟩ hsub hpw (by rw [htl] at h1; exact h1)⟩
end
end My

/-! LH -/
namespace My
open PySem L2
local macro_rules | `(tactic| walk_at "side") => `(tactic| first | with_reducible rfl | assumption | rfl | decide | omega | exact cpow1 (by omega) (by omega) | exact cdiv (by omega) (by omega) | exact two_pos _ | exact SqL.of (by assumption) | exact SqT.of (by assumption) | exact TyX.base (TyOf.int _) | exact TyX.base (TyOf.bl _) | exact TyX.base TyOf.non | exact scal_opt _ _ | exact k_ii | exact k_bi | exact k_ni | exact k_ib | exact k_bb | exact TyX.base (TyOf.lst (by assumption)) | exact k_ll | exact k_lt)
local macro_rules | `(tactic| walk_at "p") => `(tactic| repeat (first | refine And.intro (by walk_at "side") ?_ | apply Exists.intro | refine iteN (by assumption) ?_ | refine iteP (by assumption) ?_ | refine iteN (by decide) ?_ | refine iteP (by decide) ?_))

def dictG (L : List Nat) (g : Nat → V) : List (Key × V) := L.map fun c => ((.inr (sg c) : Key), g c)
theorem dictG_any (g : Nat → V) (s : Nat) : ∀ L : List Nat, ((dictG L g).any fun kv => decide (kv.1 = (.inr (sg s) : Key))) = decide (s ∈ L)
  | [] => rfl
  | c :: r => by
    have ih := dictG_any g s r
    unfold dictG at ih ⊢
    rw [List.map_cons, List.any_cons, ih]
    by_cases h : c = s
    · subst h; simp
    · have h' : s ≠ c := fun e => h e.symm
      have : ¬ (Sum.inr (sg c) : Key) = .inr (sg s) := fun e => h (sg_inj.mp e)
      simp [h', this]
theorem dictG_val (g : Nat → V) (s : Nat) : ∀ L : List Nat, s ∈ L → valV (dictG L g) (.inr (sg s)) = some (g s)
  | c :: r, hm => by
    unfold valV dictG
    rw [List.map_cons, List.find?_cons]
    by_cases h : c = s
    · subst h; simp
    · have : decide ((Sum.inr (sg c) : Key) = .inr (sg s)) = false := decide_eq_false fun e => h (sg_inj.mp e)
      simp only [this]
      have hm' : s ∈ r := by
        rcases List.mem_cons.mp hm with e | e
        · exact absurd e.symm h
        · exact e
      exact dictG_val g s r hm'
theorem dictG_new {L : List Nat} {g g' : Nat → V} {s : Nat} (h : ¬ s ∈ L) (hg : ∀ c ∈ L, g' c = g c) : putK (dictG L g) (.inr (sg s)) (g' s) = dictG (L ++ [s]) g' := by
  unfold putK
  rw [dictG_any, if_neg (by simp [h])]
  unfold dictG
  rw [List.map_append]
  congr 1
  exact List.map_congr_left fun c hc => by rw [hg c hc]
theorem letL {ps : List Str} {L : List Nat} (hL : (lettersM (pls ps)).map Prod.fst = L) {c : Nat} (h : okS c = true) (hm : c ∈ (pls ps).flatten) : c ∈ L ↔ ¬ (c = 48 ∨ c = 49) := by
  have e : (lettersM (pls ps)).map Prod.fst = lettersN.filter fun c => decide (c ∈ (pls ps).flatten) := by
    unfold lettersM
    rw [List.map_map]
    exact List.map_id _
  rw [← hL, e, List.mem_filter]
  have hd : decide (c ∈ (pls ps).flatten) = true := decide_eq_true hm
  have ho : c = 48 ∨ c = 49 ∨ c ∈ lettersN := by
    unfold okS at h
    unfold lettersN
    have := of_decide_eq_true h
    simpa using this
  constructor
  · rintro ⟨h1, _⟩ h2
    unfold lettersN at h1
    rcases h2 with rfl | rfl <;> simp at h1
  · intro h2
    refine ⟨?_, hd⟩
    rcases ho with h | h | h
    · exact absurd (.inl h) h2
    · exact absurd (.inr h) h2
    · exact h
/-- entries of the letters: how many bits are left, the number -/
def EntAt (H : Hp) (ad : Nat → Addr) (L : List Nat) (r : Nat → Int) : Prop := ∀ c ∈ L, ∃ m : Nat, H (ad c) = some (.lst [.int (r c), .int (m : Nat)])
section
variable {P : Program} {w : World} {K : PySem.W.Frag} {mg : Str → Option Value} {base : Heap}
end
end My

/-! LI -/
namespace My
open PySem L2
local macro_rules | `(tactic| walk_at "side") => `(tactic| first | with_reducible rfl | assumption | rfl | decide | omega | exact cpow1 (by omega) (by omega) | exact cdiv (by omega) (by omega) | exact two_pos _ | exact SqL.of (by assumption) | exact SqT.of (by assumption) | exact TyX.base (TyOf.int _) | exact TyX.base (TyOf.bl _) | exact TyX.base TyOf.non | exact scal_opt _ _ | exact k_ii | exact k_bi | exact k_ni | exact k_ib | exact k_bb | exact TyX.base (TyOf.lst (by assumption)) | exact k_ll | exact k_lt)
local macro_rules | `(tactic| walk_at "p") => `(tactic| repeat (first | refine And.intro (by walk_at "side") ?_ | apply Exists.intro | refine iteN (by assumption) ?_ | refine iteP (by assumption) ?_ | refine iteN (by decide) ?_ | refine iteP (by decide) ?_))

theorem mergeL (e n : Nat) : mergeK ([] : List (Key × V)) [(.inr "a", .int e), (.inr "b", .int e), (.inr "c", .int e), (.inr "m", .int n), (.inr "n", .int n)] = dictV lettersN (fun c => if isReg c = true then e else n) := rfl
theorem drawn12 : ∀ v : Nat, v < 12 → ∃ c, ("0101mnab01nc" : Str).cps.toList[v]? = some c ∧ okS c = true := by
  intro v hv
  have : ∀ v < 12, (match ("0101mnab01nc" : Str).cps.toList[v]? with | some c => okS c | none => false) = true := by decide
  have h := this v hv
  split at h
  · rename_i c e; exact ⟨c, e, h⟩
  · cases h
theorem app_len (x y : Str) : (x ++ y).length = x.length + y.length := by
  show (x.cps ++ y.cps).size = _
  rw [Array.size_append]; rfl
def totL (e n c : Nat) : Nat := if isReg c = true then e else n
/-- the bits of the letters keep the bounds -/
theorem patsOk_of {n r e : Nat} {ps : List Str} (l1 : 1 ≤ ps.length) (l3 : ps.length ≤ 3) (hp : ∀ z ∈ ps, z.length = n ∧ ∀ c ∈ z.cps.toList, okS c = true) (he : 2 ^ e ≤ r) (en : e ≤ n)
    (hc : ∀ c ∈ lettersN, (pls ps).flatten.count c ≤ totL e n c) : PatsOk n r ps := by
  refine ⟨l1, l3, hp, fun q hq => ?_⟩
  unfold lettersM at hq
  obtain ⟨c, hc', rfl⟩ := List.mem_map.mp hq
  have h := hc c (List.mem_filter.mp hc').1
  unfold totL at h
  refine ⟨?_, fun hr => ?_⟩
  · show List.count c _ ≤ n
    split at h <;> omega
  · rw [if_pos hr] at h
    exact Nat.le_trans (Nat.pow_le_pow_right (by decide) h) he
section
variable {P : Program} {w : World} {K : PySem.W.Frag} {mg : Str → Option Value} {base : Heap}
def sp_law_patterns (_ : Txt K mg) : Sp := fun vs H Q _ => ∃ (p q : Addr) (n r m : Nat), vs = [.ref p, .int (n : Nat), .int (r : Nat), .int (m : Nat)] ∧ Dr H p q ∧ p ≠ q ∧ 4 ≤ n ∧ n ≤ 8 ∧ (r = 1 ∨ r = 2 ∨ r = 4) ∧ 1 ≤ m ∧ m ≤ 3 ∧
  ∀ H' l ps, Dr H' p q → KP p H H' → H l = none → H' l = some (.lst (ps.map V.str)) → PatsOk n r ps → Q (.ref l) H'
theorem sp_law_patterns_len {T : Txt K mg} {vs H Q E} (h : sp_law_patterns T vs H Q E) : vs.length = 4 := by obtain ⟨_, _, _, _, _, rfl, _⟩ := h; rfl
theorem ok_law_patterns (T : Txt K mg) : FnOk P w K mg base CX0 2 T.f_law_patterns T.fd_law_patterns ["_law_draws_here", "_law_word", "_law_registers", "_law_many"] (sp_law_patterns T) := by
  have G_law_take := ok_law_take (P := P) (w := w) (base := base) T
  refine T.F_law_patterns.ok sc_law_patterns (fun vs H Q E h => sp_law_patterns_len h) (fun cdv A outer s H vs Q E hr h => ?_)
  obtain ⟨p, q, n, r, m, rfl, hd, hpq, n4, n8, hr', m1, m3, k⟩ := h
  refine ⟨_, (pss_cons (ps_set (i := 4) sc_law_patterns.nd rfl (Or.inl rfl) (pe_ix ix_list (pe_lst (pa_cons pe_int (pa_cons pe_int (pa_cons pe_int (pa_cons pe_int (pa_cons pe_int pa_nil)))))) (pv 2) (fun _ _ => rfl)))
       (pss_cons (ps_set (i := 5) sc_law_patterns.nd rfl (Or.inl rfl) (pe_disp (pps_cons pe_str (pv 4) (pps_cons pe_str (pv 4) (pps_cons pe_str (pv 4) (pps_cons pe_str (pv 1) (pps_cons pe_str (pv 1) pps_nil))))) rfl rfl (by intro z; cases z) (by decide)))
       (pss_cons (ps_set (i := 6) sc_law_patterns.nd rfl (Or.inl rfl) (pe_lst pa_nil))
       (pss_cons (ps_for PassesOwn.never rfl (pi_range1 (by rfl) T.n_range (pa_cons (pv 3) pa_nil)) (pg_name (i := 7) sc_law_patterns.nd rfl (Or.inl rfl))
        (pss_cons (ps_set (i := 8) sc_law_patterns.nd rfl (Or.inl rfl) pe_str)
       (pss_cons (ps_for PassesOwn.never rfl (pi_range1 (by rfl) T.n_range (pa_cons (pv 1) pa_nil)) (pg_name (i := 9) sc_law_patterns.nd rfl (Or.inl rfl))
        (pss_cons (ps_set (i := 10) sc_law_patterns.nd rfl (Or.inl rfl) (pe_ix ix_str pe_str (pe_call G_law_take hr rfl T.g_law_take T.F_law_take.kp T.b_law_take .nil pass0 (pa_cons (pv 0) (pa_cons pe_int pa_nil))) (fun _ _ => rfl)))
       (Evl.pss_cut (ps_if (pt_cmp (pc_din (hu_of hr) (pv 10) (pv 5)))
        (pss_one (ps_if (pt_cmpR op_eq (pe_dget (hu_of hr) (pv 5) (pv 10) (fun _ _ => rfl)) pe_int (nomark _))
        (pss_one (ps_set (i := 10) sc_law_patterns.nd rfl (Or.inl rfl) pe_str))
        (pss_one (ps_dput (hu_of hr) (pv 5) (pv 10) (pe_op op_sub (pe_dget (hu_of hr) (pv 5) (pv 10) (fun _ _ => rfl)) pe_int) rfl))))
        pss_nil)
       (pss_one (ps_set (i := 8) sc_law_patterns.nd rfl (Or.inl rfl) (pe_op op_add_str (pv 8) (pv 10)))))))
       (pss_one (ps_expr (pe_bm PySem.F.plainAttrs_list PySem.F.slot_list_append PySem.F.type_list_append mt_append (pv 6) (pa_cons (pv 8) pa_nil)))))))
       (pss_one (ps_ret (pv 6))))))), ?_⟩
  have sz : sizeLine = 16777216 := sizeLine_eq
  obtain ⟨e, hat, he, e2⟩ : ∃ e : Nat, atI ([.int 0, .int 0, .int 1, .int 1, .int 2] : List V) (r : Nat) = some (.int (e : Nat)) ∧ 2 ^ e ≤ r ∧ e ≤ 2 := by
    rcases hr' with rfl | rfl | rfl
    · exact ⟨0, rfl, by decide, by decide⟩
    · exact ⟨1, rfl, by decide, by decide⟩
    · exact ⟨2, rfl, by decide, by decide⟩
  refine ⟨by show 5 ≤ _; omega, fun b0 hb0 => ?_⟩
  have s1 := same_new (o := .lst [.int 0, .int 0, .int 1, .int 1, .int 2]) hb0
  refine ⟨_, rfl, b0, _, _, _, rfl, rfl, SqL.of upd_same, hat, ?_⟩
  intro d d0
  have s2 := s1.trans (same_new (o := .dK []) d0)
  refine ⟨_, rfl, _, rfl, _, rfl, _, rfl, _, rfl, ?_⟩
  refine ⟨upd_same, [(.inr "a", .int (e : Nat)), (.inr "b", .int (e : Nat)), (.inr "c", .int (e : Nat)), (.inr "m", .int (n : Nat)), (.inr "n", .int (n : Nat))], rfl, by show 5 ≤ 15; decide, ?_⟩
  rw [mergeL]
  have dN : H d = none := by
    cases h : H d with
    | none => rfl
    | some o => rw [s1 _ _ h] at d0; cases d0
  have dp : d ≠ p := fun z => by obtain ⟨_, _, h, _⟩ := hd; rw [z, h] at dN; cases dN
  have dq : d ≠ q := fun z => by obtain ⟨_, _, _, h, _⟩ := hd; rw [z, h] at dN; cases dN
  have s3 : Same H (upd (upd (upd H b0 (.lst [.int 0, .int 0, .int 1, .int 1, .int 2])) d (.dK [])) d (.dK (dictV lettersN fun c => if isReg c = true then e else n))) := fun b' o h => by
    have : b' ≠ d := fun z => by rw [z, dN] at h; cases h
    rw [upd_ne this]; exact s2 _ _ h
  have hd3 : upd (upd (upd H b0 (.lst [.int 0, .int 0, .int 1, .int 1, .int 2])) d (.dK [])) d (.dK (dictV lettersN fun c => if isReg c = true then e else n)) d = some (.dK (dictV lettersN (totL e n))) := upd_same
  generalize upd (upd (upd H b0 (.lst [.int 0, .int 0, .int 1, .int 1, .int 2])) d (.dK [])) d (.dK (dictV lettersN fun c => if isReg c = true then e else n)) = H3 at s3 hd3 ⊢
  refine ⟨Nat.zero_le _, fun l l0 => ?_⟩
  have s4 := s3.trans (same_new (o := .lst []) l0)
  have lN : H l = none := by
    cases h : H l with
    | none => rfl
    | some o => rw [s3 _ _ h] at l0; cases l0
  have lp : l ≠ p := fun z => by obtain ⟨_, _, h, _⟩ := hd; rw [z, h] at lN; cases lN
  have lq : l ≠ q := fun z => by obtain ⟨_, _, _, h, _⟩ := hd; rw [z, h] at lN; cases lN
  have ld : l ≠ d := fun z => by rw [z, hd3] at l0; cases l0
  have nD : ∀ b' o, H b' = some o → b' ≠ d := fun b' o h z => by rw [z, dN] at h; cases h
  have nL : ∀ b' o, H b' = some o → b' ≠ l := fun b' o h z => by rw [z, lN] at h; cases h
  have drk : ∀ (H' : Hp) (x : Addr) (o : HO), x ≠ p → x ≠ q → Dr H' p q → Dr (upd H' x o) p q := fun H' x o xp xq ⟨ms, j, h1, h2, h3⟩ => ⟨ms, j, by rw [upd_ne xp.symm]; exact h1, by rw [upd_ne xq.symm]; exact h2, h3⟩
  refine ⟨_, rfl, _, rfl, by omega, by omega, ?_⟩
  refine for_range (lo := 0) (n := ((m : Nat) : Int).toNat) (fun i σ H5 => Dr H5 p q ∧ KP p H H5 ∧ (∃ (ps : List Str) (g : Nat → Nat), H5 l = some (.lst (ps.map V.str)) ∧ ps.length = i ∧ (∀ z ∈ ps, z.length = n ∧ ∀ c ∈ z.cps.toList, okS c = true) ∧ H5 d = some (.dK (dictV lettersN g)) ∧ ∀ c ∈ lettersN, g c + (pls ps).flatten.count c = totL e n c) ∧ ∃ v7 v8 v9 v10 : Option V, σ = [some (.ref p), some (.int (n : Nat)), some (.int (r : Nat)), some (.int (m : Nat)), some (.int (e : Nat)), some (.ref d), some (.ref l), v7, v8, v9, v10])
    ⟨hd.news s4, KP.of s4, ⟨[], totL e n, upd_same, rfl, (fun z hz => by cases hz), same_new l0 _ _ hd3, fun c _ => rfl⟩, none, none, none, none, rfl⟩ ?_ ?_
  · rintro i σ H5 hi ⟨d5, kp5, ⟨ps, g, hl5, hpl, hpok, hd5, hg⟩, v7, v8, v9, v10, rfl⟩
    rw [Int.toNat_natCast] at hi
    refine ⟨_, rfl, _, rfl, by omega, by omega, ?_⟩
    refine for_range (lo := 0) (n := ((n : Nat) : Int).toNat) (fun k σ H6 => Dr H6 p q ∧ KP p H H6 ∧ H6 l = some (.lst (ps.map V.str)) ∧ (∃ (z : Str) (g : Nat → Nat) (v9 v10 : Option V), z.length = k ∧ (∀ c ∈ z.cps.toList, okS c = true) ∧ H6 d = some (.dK (dictV lettersN g)) ∧ (∀ c ∈ lettersN, g c + ((pls ps).flatten.count c + z.cps.toList.count c) = totL e n c) ∧ σ = [some (.ref p), some (.int (n : Nat)), some (.int (r : Nat)), some (.int (m : Nat)), some (.int (e : Nat)), some (.ref d), some (.ref l), some (.int (0 + (i : Int))), some (.str z), v9, v10]))
      ⟨d5, kp5, hl5, "", g, v9, v10, rfl, (by intro c hc; have : ("" : Str).cps.toList = [] := rfl; rw [this] at hc; cases hc), hd5, fun c hc => hg c hc, rfl⟩ ?_ ?_
    · rintro k σ H6 hk ⟨d6, kp6, hl6, z, g, v9, v10, hz, hzok, hd6, hg, rfl⟩
      rw [Int.toNat_natCast] at hk
      refine ⟨_, rfl, p, q, _, rfl, d6, hpq, by decide, fun H7 v v0 v1 d7 k7 => ?_⟩
      obtain ⟨c0, hc0, hok0⟩ := drawn12 v.toNat (by omega)
      have hat2 : atI ("0101mnab01nc" : Str).cps.toList v = some c0 := by
        rw [show v = ((v.toNat : Nat) : Int) by omega]; exact atI_nat hc0
      have kp7 := KP.trans kp6 k7
      have hd7 := k7 _ _ hd6 dp
      have hl7 := k7 _ _ hl6 lp
      refine ⟨_, _, c0, rfl, rfl, by show 12 ≤ _; omega, hat2, ?_⟩
      refine ⟨fun σ' H' => ∃ (c : Nat) (g' : Nat → Nat), okS c = true ∧ (∀ x ∈ lettersN, g' x + (if c = x then 1 else 0) = g x) ∧ Dr H' p q ∧ KP p H H' ∧ H' d = some (.dK (dictV lettersN g')) ∧ H' l = some (.lst (ps.map V.str)) ∧ σ' = [some (.ref p), some (.int (n : Nat)), some (.int (r : Nat)), some (.int (m : Nat)), some (.int (e : Nat)), some (.ref d), some (.ref l), some (.int (0 + (i : Int))), some (.str z), some (.int (0 + (k : Int))), some (.str (sg c))], ?_, ?_⟩
      · refine ⟨_, rfl, _, rfl, d, _, rfl, .inl ⟨_, .inr (sg c0), Rd.of hd7, rfl, rfl⟩, _, rfl, ?_⟩
        rw [dict_val]
        by_cases hm : c0 ∈ lettersN
        · rw [if_pos hm]
          refine iteP rfl ?_
          refine ⟨_, rfl, _, rfl, d, V.int (g c0 : Nat), rfl, .inl ⟨_, .inr (sg c0), Rd.of hd7, rfl, by rw [dict_val, if_pos hm]⟩, rfl, _, rfl, ?_⟩
          refine iteB (fun hz0 => ?_) fun hz0 => ?_
          · refine ⟨48, g, rfl, fun x hx => ?_, d7, kp7, hd7, hl7, rfl⟩
            have : ¬ 48 = x := fun z => by rw [← z] at hx; exact absurd hx (by decide)
            rw [if_neg this]; rfl
          · have hpos : 1 ≤ g c0 := by
              have := of_decide_eq_false hz0
              refine Nat.one_le_iff_ne_zero.mpr fun z => this ?_
              rw [z]; rfl
            refine ⟨_, rfl, _, rfl, d, V.int (g c0 : Nat), rfl, .inl ⟨_, .inr (sg c0), Rd.of hd7, rfl, by rw [dict_val, if_pos hm]⟩, _, _, rfl, rfl, _, rfl, _, rfl, d, _, rfl, .inl ⟨_, .inr (sg c0), hd7, rfl, by unfold dictV; rw [List.length_map]; show 5 < _; omega, rfl⟩, ?_⟩
            refine ⟨c0, fun c => if c = c0 then g c0 - 1 else g c, hok0, fun x hx => ?_, drk _ _ _ dp dq d7, fun b' o h hb => by rw [upd_ne (nD b' o h)]; exact kp7 _ _ h hb, ?_, by rw [upd_ne ld]; exact hl7, rfl⟩
            · by_cases ex : c0 = x
              · subst ex
                show (if c0 = c0 then g c0 - 1 else g c0) + _ = _
                rw [if_pos rfl, if_pos rfl]; omega
              · show (if x = c0 then g c0 - 1 else g x) + _ = _
                rw [if_neg ex, if_neg fun (z : x = c0) => ex z.symm]; rfl
            · rw [upd_same]
              refine congrArg (fun z => some (HO.dK z)) ?_
              have := dict_put (g := g) (v := g c0 - 1) hm
              rw [show (((g c0 - 1 : Nat) : Nat) : Int) = (g c0 : Nat) - 1 by omega] at this
              exact this
        · rw [if_neg hm]
          refine iteN (by intro z; cases z) ?_
          refine ⟨c0, g, hok0, fun x hx => ?_, d7, kp7, hd7, hl7, rfl⟩
          have : ¬ c0 = x := fun z => hm (z ▸ hx)
          rw [if_neg this]; rfl
      · rintro σ' H' ⟨c, g', hok, hg', d8, kp8, hd8, hl8, rfl⟩
        refine ⟨_, rfl, _, rfl, z, sg c, rfl, rfl, by show z.length + 1 ≤ _; omega, ?_⟩
        refine ⟨d8, kp8, hl8, z ++ sg c, g', _, _, by rw [app_len, hz]; rfl, fun x hx => ?_, hd8, fun x hx => ?_, rfl⟩
        · rw [app_l] at hx
          rcases List.mem_append.mp hx with hx | hx
          · exact hzok x hx
          · have : (sg c).cps.toList = [c] := rfl
            rw [this] at hx
            rw [List.mem_singleton.mp hx]; exact hok
        · have h1 := hg x hx
          have h2 := hg' x hx
          have e3 : (z ++ sg c).cps.toList.count x = z.cps.toList.count x + if c = x then 1 else 0 := by
            rw [app_l, List.count_append]
            have : (sg c).cps.toList = [c] := rfl
            rw [this]
            by_cases ex : c = x
            · simp [ex]
            · simp [ex]
          omega
    · rintro σ H6 ⟨d6, kp6, hl6, z, g, v9, v10, hz, hzok, hd6, hg, rfl⟩
      refine ⟨_, rfl, .inl ⟨rfl, _, SqL.of hl6⟩, _, rfl, l, _, _, rfl, rfl, hl6, by rw [List.length_map]; omega, ?_⟩
      refine ⟨drk _ _ _ lp lq d6, fun b' o h hb => by rw [upd_ne (nL b' o h)]; exact kp6 _ _ h hb, ⟨ps ++ [z], g, by rw [upd_same, List.map_append]; rfl, by simp [hpl], fun y hy => ?_, by rw [upd_ne ld.symm]; exact hd6, fun c hc => ?_⟩, _, _, _, _, rfl⟩
      · rcases List.mem_append.mp hy with hy | hy
        · exact hpok y hy
        · rw [List.mem_singleton.mp hy]; exact ⟨by rw [hz, Int.toNat_natCast], hzok⟩
      · have := hg c hc
        have e3 : (pls (ps ++ [z])).flatten.count c = (pls ps).flatten.count c + z.cps.toList.count c := by
          unfold pls
          rw [List.map_append, List.flatten_append, List.count_append]
          show _ + List.count c (z.cps.toList ++ []) = _
          rw [List.append_nil]
        omega
  · rintro σ H5 ⟨d5, kp5, ⟨ps, g, hl5, hpl, hpok, hd5, hg⟩, v7, v8, v9, v10, rfl⟩
    rw [Int.toNat_natCast] at hpl
    exact ⟨_, rfl, k _ l ps d5 kp5 lN hl5 (patsOk_of (e := e) (by omega) (by omega) hpok he (by omega) fun c hc => by have := hg c hc; omega)⟩
end
end My

/-! LJ -/
namespace My
open PySem L2
local macro_rules | `(tactic| walk_at "side") => `(tactic| first | with_reducible rfl | assumption | rfl | decide | omega | exact cpow1 (by omega) (by omega) | exact cdiv (by omega) (by omega) | exact two_pos _ | exact SqL.of (by assumption) | exact SqT.of (by assumption) | exact TyX.base (TyOf.int _) | exact TyX.base (TyOf.bl _) | exact TyX.base TyOf.non | exact scal_opt _ _ | exact k_ii | exact k_bi | exact k_ni | exact k_ib | exact k_bb | exact TyX.base (TyOf.lst (by assumption)) | exact k_ll | exact k_lt)
local macro_rules | `(tactic| walk_at "p") => `(tactic| repeat (first | refine And.intro (by walk_at "side") ?_ | apply Exists.intro | refine iteN (by assumption) ?_ | refine iteP (by assumption) ?_ | refine iteN (by decide) ?_ | refine iteP (by decide) ?_))

theorem sIx_nat {n d v : Nat} (h : v ≤ n) : HT.sIx n d (some (v : Int)) = v := by
  show (if (v : Int) < 0 then ((v : Int) + (n : Nat)).toNat else min (v : Int).toNat n) = _
  rw [if_neg (by omega), Int.toNat_natCast]
  exact Nat.min_eq_left h
theorem cutS_to {z : Str} {v : Nat} (h : v ≤ z.length) : (cutS z none (some (v : Int))).cps.toList = z.cps.toList.take v := by
  unfold cutS
  rw [sIx_nat h]
  show (List.take (v - 0) (List.drop 0 _)) = _
  simp
theorem cutS_from {z : Str} {v : Nat} (h : v ≤ z.length) : (cutS z (some (v : Int)) none).cps.toList = z.cps.toList.drop v := by
  unfold cutS
  rw [sIx_nat h]
  show (List.take (z.length - v) (List.drop v _)) = _
  rw [List.take_of_length_le]
  rw [List.length_drop, Array.length_toList]; exact Nat.le_refl _
theorem cutV_to {xs : List V} {v : Nat} (h : v ≤ xs.length) : cutV xs none (some (v : Int)) = xs.take v := by
  unfold cutV
  rw [sIx_nat h]
  show (List.take (v - 0) (List.drop 0 _)) = _
  simp
theorem count_set (c : Nat) : ∀ (ps : List Str) (i : Nat) (x y : Str), ps[i]? = some x → y.cps.toList.count c ≤ x.cps.toList.count c → (pls (ps.set i y)).flatten.count c ≤ (pls ps).flatten.count c
  | [], _, _, _, h, _ => by simp at h
  | z :: r, 0, x, y, h, hc => by
    cases h
    unfold pls
    rw [List.set_cons_zero, List.map_cons, List.map_cons, List.flatten_cons, List.flatten_cons, List.count_append, List.count_append]
    omega
  | z :: r, i + 1, x, y, h, hc => by
    have := count_set c r i x y h hc
    unfold pls at this ⊢
    rw [List.set_cons_succ, List.map_cons, List.map_cons, List.flatten_cons, List.flatten_cons, List.count_append, List.count_append]
    omega
theorem PatsOk.less {n r : Nat} {ps qs : List Str} (h : PatsOk n r ps) (l1 : 1 ≤ qs.length) (l3 : qs.length ≤ 3) (hp : ∀ z ∈ qs, z.length = n ∧ ∀ c ∈ z.cps.toList, okS c = true) (hc : ∀ c ∈ lettersN, (pls qs).flatten.count c ≤ (pls ps).flatten.count c) : PatsOk n r qs := by
  refine ⟨l1, l3, hp, fun q hq => ?_⟩
  unfold lettersM at hq
  obtain ⟨c, hc', rfl⟩ := List.mem_map.mp hq
  obtain ⟨m1, m2⟩ := List.mem_filter.mp hc'
  have hle := hc c m1
  have hpos : 0 < (pls qs).flatten.count c := List.count_pos_iff.mpr (of_decide_eq_true m2)
  have hin : (c, (pls ps).flatten.count c) ∈ lettersM (pls ps) := by
    unfold lettersM
    refine List.mem_map.mpr ⟨c, List.mem_filter.mpr ⟨m1, decide_eq_true (List.count_pos_iff.mp (by omega))⟩, rfl⟩
  obtain ⟨b1, b2⟩ := h.bits _ hin
  refine ⟨Nat.le_trans hle b1, fun hr => Nat.le_trans (Nat.pow_le_pow_right (by decide) hle) (b2 hr)⟩
theorem repS_l (n : Nat) : (repS "0" n).cps.toList = List.replicate n 48 := by
  unfold repS
  have g : ∀ (n : Nat) (a : Array Nat), ((List.replicate n ("0" : Str).cps).foldl (· ++ ·) a).toList = a.toList ++ List.replicate n 48 := fun n => by
    induction n with
    | zero => intro a; simp
    | succ n ih =>
      intro a
      rw [List.replicate_succ, List.foldl_cons, ih, Array.toList_append]
      have : ("0" : Str).cps.toList = [48] := by decide
      rw [this, List.append_assoc]; rfl
  have := g n #[]
  simpa using this
theorem map_strs {ps : List Str} {i : Nat} {y : Str} : (ps.map V.str).set i (V.str y) = (ps.set i y).map V.str := by rw [List.map_set]
section
variable {P : Program} {w : World} {K : PySem.W.Frag} {mg : Str → Option Value} {base : Heap}
def sp_law_bent (_ : Txt K mg) : Sp := fun vs H Q _ => ∃ (p q a : Addr) (ps : List Str) (n r : Nat), vs = [.ref p, .ref a] ∧ Dr H p q ∧ p ≠ q ∧ H a = some (.lst (ps.map V.str)) ∧ PatsOk n r ps ∧ 4 ≤ n ∧ n ≤ 8 ∧
  ∀ H' l qs, Dr H' p q → KP p H H' → H l = none → H' l = some (.lst (qs.map V.str)) → PatsOk n r qs → Q (.ref l) H'
theorem sp_law_bent_len {T : Txt K mg} {vs H Q E} (h : sp_law_bent T vs H Q E) : vs.length = 2 := by obtain ⟨_, _, _, _, _, _, rfl, _⟩ := h; rfl
theorem ok_law_bent (T : Txt K mg) : FnOk P w K mg base CX0 2 T.f_law_bent T.fd_law_bent ["_law_draws_here", "_law_patterns_here"] (sp_law_bent T) := by
  have G_law_take := ok_law_take (P := P) (w := w) (base := base) T
  refine T.F_law_bent.ok sc_law_bent (fun vs H Q E h => sp_law_bent_len h) (fun cdv A outer s H vs Q E hr h => ?_)
  obtain ⟨p, q, a, ps, n, r, rfl, hd, hpq, ha, hp, n4, n8, k⟩ := h
  refine ⟨_, (pss_cons (ps_setLc (i := 2) (own := [("_law_pattern", 7)]) rfl sc_law_bent.nd rfl rfl (sw_true rfl rfl rfl (by decide +kernel)) (pi_list (pv 1)) (blkOk_by (N := ["_law_draws_here", "_law_patterns_here", "_law_bent_here", "_law_at", "_law_place", "_law_sign", "_law_kind", "_law_pattern"]) (sc := defScope s_law_bent) (by decide +kernel)) (fun _ _ _ _ _ => by (apply pg_tr; exact pg_name (i := 7) sc_law_bent.nd rfl (Or.inl rfl); (try dsimp only [Cx.blk]) <;> exact rfl)) (fun _ _ _ _ _ => by (apply pts_tr; exact pts_nil; (try dsimp only [Cx.blk]) <;> exact rfl)) (fun _ _ _ _ _ => by (apply pe_tr; exact (pv 7); (try dsimp only [Cx.blk]) <;> exact rfl)))
       (pss_cons (ps_set (i := 3) sc_law_bent.nd rfl (Or.inl rfl) (pe_call G_law_take hr rfl T.g_law_take T.F_law_take.kp T.b_law_take .nil pass0 (pa_cons (pv 0) (pa_cons (pe_callB call_lenL (by rfl) T.n_len (by decide +kernel) (pa_cons (pv 2) pa_nil)) pa_nil))))
       (pss_cons (ps_set (i := 4) sc_law_bent.nd rfl (Or.inl rfl) (pe_call G_law_take hr rfl T.g_law_take T.F_law_take.kp T.b_law_take .nil pass0 (pa_cons (pv 0) (pa_cons (pe_callB call_len_str (by rfl) T.n_len (by decide +kernel) (pa_cons (pe_ix ix_list (pv 2) (pv 3) (fun _ _ => rfl)) pa_nil)) pa_nil))))
       (pss_cons (ps_set (i := 5) sc_law_bent.nd rfl (Or.inl rfl) (pe_ix ix_str pe_str (pe_call G_law_take hr rfl T.g_law_take T.F_law_take.kp T.b_law_take .nil pass0 (pa_cons (pv 0) (pa_cons pe_int pa_nil))) (fun _ _ => rfl)))
       (pss_cons (ps_asg (pe_op op_add_str (pe_op op_add_str (pe_slice sl_str (pe_ix ix_list (pv 2) (pv 3) (fun _ _ => rfl)) po_none (po_some (pv 4))) (pv 5)) (pe_slice sl_str (pe_ix ix_list (pv 2) (pv 3) (fun _ _ => rfl)) (po_some (pe_op op_add (pv 4) pe_int)) po_none)) (pg_sub (pv 2) (pv 3) set_list))
       (pss_cons (ps_set (i := 6) sc_law_bent.nd rfl (Or.inl rfl) (pe_call G_law_take hr rfl T.g_law_take T.F_law_take.kp T.b_law_take .nil pass0 (pa_cons (pv 0) (pa_cons pe_int pa_nil))))
       (Evl.pss_cut (ps_if (PW.pt (pw_and (pt_cmpR op_eq (pv 6) pe_int (nomark _)) (pw_and1 (pt_cmpR op_lt (pe_callB call_lenL (by rfl) T.n_len (by decide +kernel) (pa_cons (pv 2) pa_nil)) pe_int (nomark _)))))
        (pss_one (ps_expr (pe_bm PySem.F.plainAttrs_list PySem.F.slot_list_append PySem.F.type_list_append mt_append (pv 2) (pa_cons (pe_op op_rep_str pe_str (pe_callB call_len_str (by rfl) T.n_len (by decide +kernel) (pa_cons (pe_ix ix_list (pv 2) pe_int (fun _ _ => rfl)) pa_nil))) pa_nil))))
        pss_nil)
       (pss_cons (ps_if (PW.pt (pw_and (pt_cmpR op_eq (pv 6) pe_int (nomark _)) (pw_and1 (pt_cmpR op_gt (pe_callB call_lenL (by rfl) T.n_len (by decide +kernel) (pa_cons (pv 2) pa_nil)) pe_int (nomark _)))))
        (pss_one (ps_set (i := 2) sc_law_bent.nd rfl (Or.inl rfl) (pe_slice sl_list (pv 2) po_none (po_some (pe_op op_sub (pe_callB call_lenL (by rfl) T.n_len (by decide +kernel) (pa_cons (pv 2) pa_nil)) pe_int)))))
        pss_nil)
       (pss_one (ps_ret (pv 2))))))))))), ?_⟩
  have sz : sizeLine = 16777216 := sizeLine_eq
  have l1 := hp.l1
  have l3 := hp.l3
  refine ⟨_, rfl, a, rfl, ⟨_, SqL.of ha⟩, fun l l0 => ?_⟩
  have lp : l ≠ p := fun z => by obtain ⟨_, _, h, _⟩ := hd; rw [z, h] at l0; cases l0
  have lq : l ≠ q := fun z => by obtain ⟨_, _, _, h, _⟩ := hd; rw [z, h] at l0; cases l0
  have nL : ∀ b' o, H b' = some o → b' ≠ l := fun b' o h z => by rw [z, l0] at h; cases h
  have drk : ∀ (H' : Hp) (x : Addr) (o : HO), x ≠ p → x ≠ q → Dr H' p q → Dr (upd H' x o) p q := fun H' x o xp xq ⟨ms, j, h1, h2, h3⟩ => ⟨ms, j, by rw [upd_ne xp.symm]; exact h1, by rw [upd_ne xq.symm]; exact h2, h3⟩
  refine lc_it (walk_list (xs := ps.map V.str)) (fun i H1 => Same H H1 ∧ H1 l = some (.lst ((ps.map V.str).take i))) ⟨same_new l0, upd_same⟩ (fun i H1 _ ⟨s1, _⟩ => SqL.of (s1 _ _ ha)) ?_ ?_
  · rintro i x H1 H2 hi ⟨s1, h1⟩ ⟨rfl, hx⟩
    refine ⟨rfl, _, rfl, _, h1, ?_, fun b' o h => by rw [upd_ne (nL b' o h)]; exact s1 _ _ h, ?_⟩
    · refine Nat.lt_of_le_of_lt (List.length_take_le' _ _) ?_
      rw [List.length_map]; omega
    · rw [upd_same, List.take_succ, hx]; rfl
  rintro H1 ⟨s1, h1⟩
  rw [List.take_of_length_le (Nat.le_refl _)] at h1
  have d1 := hd.news s1
  have hpl : (ps.map V.str).length = ps.length := List.length_map _
  refine ⟨_, rfl, _, rfl, l, _, rfl, SqL.of h1, p, q, _, rfl, d1, hpq, by rw [hpl]; omega, fun H2 v v0 v1 d2 k2 => ?_⟩
  have h2 := k2 _ _ h1 lp
  rw [hpl] at v1
  obtain ⟨x, hx⟩ : ∃ x, ps[v.toNat]? = some x := ⟨_, List.getElem?_eq_getElem (by omega)⟩
  obtain ⟨xn, xok⟩ := hp.pat x (List.mem_of_getElem? hx)
  have hxat : atI (ps.map V.str) v = some (.str x) := by
    rw [show v = ((v.toNat : Nat) : Int) by omega]; exact atI_nat (by rw [List.getElem?_map, hx]; rfl)
  refine ⟨_, rfl, _, rfl, _, rfl, l, _, _, .str x, rfl, rfl, SqL.of h2, hxat, x, rfl, by omega, p, q, _, rfl, d2, hpq, by omega, fun H3 u u0 u1 d3 k3 => ?_⟩
  have h3 := k3 _ _ h2 lp
  refine ⟨_, rfl, p, q, _, rfl, d3, hpq, by decide, fun H4 b b0 b1 d4 k4 => ?_⟩
  have h4 := k4 _ _ h3 lp
  obtain ⟨sn, hsn, hs01⟩ : ∃ sn, atI ("10" : Str).cps.toList b = some sn ∧ (sn = 48 ∨ sn = 49) := by
    have : b = 0 ∨ b = 1 := by omega
    rcases this with rfl | rfl
    · exact ⟨49, rfl, .inr rfl⟩
    · exact ⟨48, rfl, .inl rfl⟩
  refine ⟨_, _, sn, rfl, rfl, by show 2 ≤ _; omega, hsn, ?_⟩
  have hl4 := SqL.of (K := K) h4
  have clen := fun (lo hi : Option Int) => cutS_length x lo hi
  have xl : x.cps.toList.length = x.length := by rw [Array.length_toList]; rfl
  have c1 := clen none (some u)
  have c2 := clen (some (u + 1)) none
  refine ⟨_, rfl, _, rfl, l, _, _, .str x, rfl, rfl, hl4, hxat, _, rfl, _, rfl, x, rfl, by omega, _, rfl, cutS x none (some u), sg sn, rfl, rfl, by show _ + 1 ≤ _; omega, ?_⟩
  refine ⟨_, rfl, _, rfl, l, _, _, .str x, rfl, rfl, hl4, hxat, _, rfl, _, _, rfl, rfl, _, rfl, x, rfl, by omega, cutS x none (some u) ++ sg sn, cutS x (some (u + 1)) none, rfl, rfl, by rw [app_len]; show _ + 1 + _ ≤ _; omega, ?_⟩
  have eu : u = ((u.toNat : Nat) : Int) := by omega
  have eu1 : u + 1 = ((u.toNat + 1 : Nat) : Int) := by omega
  have uln : u.toNat < x.length := by omega
  have yl : ((cutS x none (some u) ++ sg sn) ++ cutS x (some (u + 1)) none).cps.toList = x.cps.toList.take u.toNat ++ [sn] ++ x.cps.toList.drop (u.toNat + 1) := by
    rw [app_l, app_l, eu1, cutS_from (by omega)]
    have : (cutS x none (some u)).cps.toList = x.cps.toList.take u.toNat := by
      have := cutS_to (z := x) (v := u.toNat) (by omega)
      rw [← eu] at this
      exact this
    rw [this]; rfl
  generalize (cutS x none (some u) ++ sg sn) ++ cutS x (some (u + 1)) none = y at yl
  have yn : y.length = n := by
    have : y.length = y.cps.toList.length := by rw [Array.length_toList]; rfl
    rw [this, yl, List.length_append, List.length_append, List.length_take, List.length_drop, List.length_singleton]
    omega
  have ysub : ∀ c ∈ y.cps.toList, okS c = true := fun c hc => by
    rw [yl] at hc
    rcases List.mem_append.mp hc with hc | hc
    · rcases List.mem_append.mp hc with hc | hc
      · exact xok c (List.mem_of_mem_take hc)
      · rw [List.mem_singleton.mp hc]
        rcases hs01 with rfl | rfl <;> decide
    · exact xok c (List.mem_of_mem_drop hc)
  have ycount : ∀ c ∈ lettersN, y.cps.toList.count c ≤ x.cps.toList.count c := fun c hc => by
    have hne : ¬ sn = c := fun z => by
      rw [← z] at hc
      rcases hs01 with h | h <;> (rw [h] at hc; exact absurd hc (by decide))
    have e1 : x.cps.toList = x.cps.toList.take u.toNat ++ x.cps.toList.drop u.toNat := (List.take_append_drop _ _).symm
    have e2 : x.cps.toList.drop u.toNat = x.cps.toList[u.toNat]'(by omega) :: x.cps.toList.drop (u.toNat + 1) := List.drop_eq_getElem_cons (by omega)
    have e3 : x.cps.toList.count c = (x.cps.toList.take u.toNat).count c + (x.cps.toList.drop u.toNat).count c := by
      conv => lhs; rw [e1, List.count_append]
    have e4 : (x.cps.toList.drop (u.toNat + 1)).count c ≤ (x.cps.toList.drop u.toNat).count c := by
      rw [e2, List.count_cons]; omega
    have e5 : List.count c [sn] = 0 := List.count_eq_zero.mpr fun h => hne (List.mem_singleton.mp h).symm
    rw [yl, List.count_append, List.count_append, e5]
    omega
  have hp5 : PatsOk n r (ps.set v.toNat y) := by
    refine hp.less (by rw [List.length_set]; exact l1) (by rw [List.length_set]; exact l3) (fun z hz => ?_) fun c hc => count_set c ps _ x y hx (ycount c hc)
    rcases List.mem_or_eq_of_mem_set hz with h | h
    · exact hp.pat z h
    · rw [h]; exact ⟨yn, ysub⟩
  have hvi : ixN (ps.map V.str).length v = some v.toNat := by
    unfold ixN; rw [if_pos (by omega), if_pos (by rw [hpl]; omega)]
  refine ⟨_, rfl, _, rfl, l, _, v, v.toNat, rfl, rfl, h4, hvi, ?_⟩
  rw [map_strs]
  generalize hqs : ps.set v.toNat y = qs at hp5
  have h5 : upd H4 l (.lst (qs.map V.str)) l = some (.lst (qs.map V.str)) := upd_same
  have d5 := drk _ _ (.lst (qs.map V.str)) lp lq d4
  have kp5 : KP p H (upd H4 l (.lst (qs.map V.str))) := fun b' o h hb => by rw [upd_ne (nL b' o h)]; exact k4 _ _ (k3 _ _ (k2 _ _ (s1 _ _ h) hb) hb) hb
  generalize upd H4 l (.lst (qs.map V.str)) = H5 at h5 d5 kp5 ⊢
  refine ⟨_, rfl, p, q, _, rfl, d5, hpq, by decide, fun H6 kd kd0 kd1 d6 k6 => ?_⟩
  have h6 := k6 _ _ h5 lp
  have kp6 := KP.trans kp5 k6
  have qpl : (qs.map V.str).length = qs.length := List.length_map _
  refine ⟨fun σ' H' => Dr H' p q ∧ KP p H H' ∧ (∃ qs, H' l = some (.lst (qs.map V.str)) ∧ PatsOk n r qs) ∧ σ'[2]? = some (some (V.ref l)) ∧ ∃ x, σ'[6]? = some (some x) ∧ x = V.int kd, ?_, ?_⟩
  · have keep : Dr H6 p q ∧ KP p H H6 ∧ (∃ qs, H6 l = some (.lst (qs.map V.str)) ∧ PatsOk n r qs) := ⟨d6, kp6, qs, h6, hp5⟩
    have q1 := hp5.l1
    have q3 := hp5.l3
    refine ⟨_, rfl, rfl, _, rfl, iteB (fun e => ?_) fun e => ?_⟩
    · refine ⟨_, rfl, l, _, rfl, SqL.of h6, _, _, rfl, rfl, _, rfl, iteB (fun e3 => ?_) fun e3 => ?_⟩
      · have hlt := of_decide_eq_true e3
        obtain ⟨z0, hz0⟩ : ∃ z, qs[0]? = some z := ⟨_, List.getElem?_eq_getElem (by omega)⟩
        obtain ⟨zn, zok⟩ := hp5.pat z0 (List.mem_of_getElem? hz0)
        have hat0 : atI (qs.map V.str) 0 = some (.str z0) := atI_nat (j := 0) (by rw [List.getElem?_map, hz0]; rfl)
        refine ⟨_, rfl, .inl ⟨rfl, _, SqL.of h6⟩, _, rfl, l, _, _, .str z0, rfl, rfl, SqL.of h6, hat0, z0, rfl, by omega, "0", _, rfl, rfl, by omega, by omega, by show 1 ≤ 1000; decide, l, _, _, rfl, rfl, h6, by rw [qpl]; omega, ?_⟩
        have rl : (repS "0" z0.length).length = n := by
          have : (repS "0" z0.length).length = (repS "0" z0.length).cps.toList.length := by rw [Array.length_toList]; rfl
          rw [this, repS_l, List.length_replicate, zn]
        refine ⟨drk _ _ _ lp lq d6, fun b' o h hb => by rw [upd_ne (nL b' o h)]; exact kp6 _ _ h hb, ⟨qs ++ [repS "0" z0.length], ?_, ?_⟩, rfl, _, rfl, rfl⟩
        · rw [upd_same, List.map_append, Int.toNat_natCast]; rfl
        · refine hp5.less (by simp) (by rw [List.length_append, List.length_singleton]; omega) (fun z hz => ?_) fun c hc => ?_
          · rcases List.mem_append.mp hz with h | h
            · exact hp5.pat z h
            · rw [List.mem_singleton.mp h]
              refine ⟨rl, fun c hc => ?_⟩
              rw [repS_l] at hc
              rw [(List.mem_replicate.mp hc).2]; decide
          · unfold pls
            rw [List.map_append, List.flatten_append, List.count_append]
            show _ + List.count c ((repS "0" z0.length).cps.toList ++ []) ≤ _
            rw [List.append_nil, repS_l]
            have : List.count c (List.replicate z0.length 48) = 0 := List.count_eq_zero.mpr fun h => by
              rw [(List.mem_replicate.mp h).2] at hc; exact absurd hc (by decide)
            omega
      · exact ⟨keep.1, keep.2.1, keep.2.2, rfl, _, rfl, rfl⟩
    · refine iteN (by decide) ?_
      exact ⟨keep.1, keep.2.1, keep.2.2, rfl, _, rfl, rfl⟩
  · rintro σ' H7 ⟨d7, kp7, ⟨qs2, h7, hp7⟩, e2, x6, e6, rfl⟩
    have q1 := hp7.l1
    have q3 := hp7.l3
    have q2l : (qs2.map V.str).length = qs2.length := List.length_map _
    refine ⟨_, e6, rfl, _, rfl, iteB (fun e => ?_) fun e => ?_⟩
    · refine ⟨_, e2, l, _, rfl, SqL.of h7, _, _, rfl, rfl, _, rfl, iteB (fun e3 => ?_) fun e3 => ?_⟩
      · have hlt := of_decide_eq_true e3
        refine ⟨_, e2, _, e2, l, _, rfl, SqL.of h7, _, _, rfl, rfl, _, rfl, l, _, rfl, SqL.of h7, fun l2 l20 => ?_⟩
        have hcut : cutV (qs2.map V.str) none (some (((qs2.map V.str).length : Nat) - 1)) = (qs2.take (qs2.length - 1)).map V.str := by
          rw [show (((qs2.map V.str).length : Nat) : Int) - 1 = ((qs2.length - 1 : Nat) : Int) by rw [q2l]; omega, cutV_to (by rw [q2l]; omega), List.map_take]
        rw [hcut]
        have l2p : l2 ≠ p := fun z => by obtain ⟨_, _, h, _⟩ := d7; rw [z, h] at l20; cases l20
        have l2N : H l2 = none := by
          cases h : H l2 with
          | none => rfl
          | some o => rw [kp7 _ _ h l2p] at l20; cases l20
        have s8 := same_new (o := .lst ((qs2.take (qs2.length - 1)).map V.str)) l20
        refine ⟨_, List.getElem?_set_self (List.getElem?_eq_some_iff.mp e2).1, k _ l2 _ (d7.news s8) (KP.trans kp7 (KP.of s8)) l2N upd_same ?_⟩
        refine hp7.less (by rw [List.length_take]; omega) (by rw [List.length_take]; omega) (fun z hz => hp7.pat z (List.mem_of_mem_take hz)) fun c _ => ?_
        unfold pls
        rw [List.map_take]
        conv => rhs; rw [← List.take_append_drop (qs2.length - 1) (qs2.map fun z => z.cps.toList)]
        rw [List.flatten_append, List.count_append]
        exact Nat.le_add_right _ _
      · exact ⟨_, e2, k _ l qs2 d7 kp7 l0 h7 hp7⟩
    · refine iteN (by decide) ?_
      exact ⟨_, e2, k _ l qs2 d7 kp7 l0 h7 hp7⟩
end
end My

/-! LK -/
namespace My
open PySem L2
local macro_rules | `(tactic| walk_at "side") => `(tactic| first | with_reducible rfl | assumption | rfl | decide | omega | exact cpow1 (by omega) (by omega) | exact cdiv (by omega) (by omega) | exact two_pos _ | exact SqL.of (by assumption) | exact SqT.of (by assumption) | exact TyX.base (TyOf.int _) | exact TyX.base (TyOf.bl _) | exact TyX.base TyOf.non | exact scal_opt _ _ | exact k_ii | exact k_bi | exact k_ni | exact k_ib | exact k_bb | exact TyX.base (TyOf.lst (by assumption)) | exact k_ll | exact k_lt)
local macro_rules | `(tactic| walk_at "p") => `(tactic| repeat (first | refine And.intro (by walk_at "side") ?_ | apply Exists.intro | refine iteN (by assumption) ?_ | refine iteP (by assumption) ?_ | refine iteN (by decide) ?_ | refine iteP (by decide) ?_))

def NMs : List Str := ["mid", "a", "zebra", "halt", "ab", "stop"]
theorem nms_ok : ∀ z ∈ NMs, nameOk z := by
  have : ∀ z ∈ NMs, 1 ≤ z.length ∧ z.length ≤ 8 ∧ ∀ c ∈ z.cps.toList, 97 ≤ c ∧ c ≤ 122 := by decide
  exact this
theorem nms_nd : NMs.Nodup := by decide
/-- a row apart from p and l -/
def RowQ (p l : Addr) (H : Hp) (t : Addr) (f : FM) : Prop := t ≠ p ∧ t ≠ l ∧ ∃ pa la, pa ≠ p ∧ pa ≠ l ∧ la ≠ p ∧ la ≠ l ∧ H t = some (.tup [.str f.nm, .ref pa, .ref la]) ∧ H pa = some (.lst (f.ps.map V.str)) ∧ H la = some (.lst [])
theorem RowQ.row {p l : Addr} {H : Hp} {t : Addr} {f : FM} (h : RowQ p l H t f) : RowP H t f := by
  obtain ⟨_, _, pa, la, _, _, _, _, h1, h2, h3⟩ := h
  exact ⟨pa, la, h1, h2, h3⟩
theorem RowQ.keep {p l : Addr} {H H' : Hp} {t : Addr} {f : FM} (h : RowQ p l H t f) (k : ∀ b o, H b = some o → b ≠ p → b ≠ l → H' b = some o) : RowQ p l H' t f := by
  obtain ⟨a1, a2, pa, la, a3, a4, a5, a6, h1, h2, h3⟩ := h
  exact ⟨a1, a2, pa, la, a3, a4, a5, a6, k _ _ h1 a1 a2, k _ _ h2 a3 a4, k _ _ h3 a5 a6⟩
section
variable {P : Program} {w : World} {K : PySem.W.Frag} {mg : Str → Option Value} {base : Heap}
def sp_law_form_rows (_ : Txt K mg) : Sp := fun vs H Q _ => ∃ (p q : Addr) (n r m : Nat), vs = [.ref p, .int (n : Nat), .int (r : Nat), .int (m : Nat)] ∧ Dr H p q ∧ p ≠ q ∧ 4 ≤ n ∧ n ≤ 8 ∧ (r = 1 ∨ r = 2 ∨ r = 4) ∧ 1 ≤ m ∧ m ≤ 5 ∧
  ∀ H' l F, Dr H' p q → KP p H H' → H l = none → (∃ ts, H' l = some (.lst ts) ∧ Refs H' ts F (RowQ p l)) → BookOk n r F → F.length = m → Q (.ref l) H'
theorem sp_law_form_rows_len {T : Txt K mg} {vs H Q E} (h : sp_law_form_rows T vs H Q E) : vs.length = 4 := by obtain ⟨_, _, _, _, _, rfl, _⟩ := h; rfl
theorem ok_law_form_rows (T : Txt K mg) : FnOk P w K mg base CX0 3 T.f_law_form_rows T.fd_law_form_rows ["_law_draws_here", "_law_word", "_law_registers", "_law_many"] (sp_law_form_rows T) := by
  have G_law_bent := ok_law_bent (P := P) (w := w) (base := base) T; have G_law_patterns := ok_law_patterns (P := P) (w := w) (base := base) T; have G_law_take := ok_law_take (P := P) (w := w) (base := base) T
  refine T.F_law_form_rows.ok sc_law_form_rows (fun vs H Q E h => sp_law_form_rows_len h) (fun cdv A outer s H vs Q E hr h => ?_)
  obtain ⟨p, q, n, r, m, rfl, hd, hpq, n4, n8, hr', m1, m5, k⟩ := h
  refine ⟨_, (pss_cons (ps_set (i := 4) sc_law_form_rows.nd rfl (Or.inl rfl) (pe_lst (pa_cons pe_str (pa_cons pe_str (pa_cons pe_str (pa_cons pe_str (pa_cons pe_str (pa_cons pe_str pa_nil))))))))
       (pss_cons (ps_set (i := 5) sc_law_form_rows.nd rfl (Or.inl rfl) (pe_lst pa_nil))
       (pss_cons (ps_for PassesOwn.never rfl (pi_range1 (by rfl) T.n_range (pa_cons (pv 3) pa_nil)) (pg_name (i := 6) sc_law_form_rows.nd rfl (Or.inl rfl))
        (Evl.pss_cut (ps_if (PW.pt (pw_and (pt_cmpR op_gt (pv 6) pe_int (nomark _)) (pw_and1 (pt_cmpR op_eq (pe_call G_law_take (hr.mono (by decide)) rfl T.g_law_take T.F_law_take.kp T.b_law_take .nil pass0 (pa_cons (pv 0) (pa_cons pe_int pa_nil))) pe_int (nomark _)))))
        (pss_one (ps_set (i := 7) sc_law_form_rows.nd rfl (Or.inl rfl) (pe_call G_law_bent hr rfl T.g_law_bent T.F_law_bent.kp T.b_law_bent .nil pass0 (pa_cons (pv 0) (pa_cons (pe_ix ix_tup (pe_ix ix_list (pv 5) (pe_call G_law_take (hr.mono (by decide)) rfl T.g_law_take T.F_law_take.kp T.b_law_take .nil pass0 (pa_cons (pv 0) (pa_cons (pv 6) pa_nil))) (fun _ _ => rfl)) pe_int (fun _ _ => rfl)) pa_nil)))))
        (pss_one (ps_set (i := 7) sc_law_form_rows.nd rfl (Or.inl rfl) (pe_call G_law_patterns hr rfl T.g_law_patterns T.F_law_patterns.kp T.b_law_patterns .nil pass0 (pa_cons (pv 0) (pa_cons (pv 1) (pa_cons (pv 2) (pa_cons (pe_ix ix_list (pe_lst (pa_cons pe_int (pa_cons pe_int (pa_cons pe_int (pa_cons pe_int (pa_cons pe_int pa_nil)))))) (pe_call G_law_take (hr.mono (by decide)) rfl T.g_law_take T.F_law_take.kp T.b_law_take .nil pass0 (pa_cons (pv 0) (pa_cons pe_int pa_nil))) (fun _ _ => rfl)) pa_nil))))))))
       (pss_one (ps_expr (pe_bm PySem.F.plainAttrs_list PySem.F.slot_list_append PySem.F.type_list_append mt_append (pv 5) (pa_cons (pe_tup (pa_cons (pe_ix ix_list (pv 4) (pv 6) (fun _ _ => rfl)) (pa_cons (pv 7) (pa_cons (pe_lst pa_nil) pa_nil)))) pa_nil))))))
       (pss_one (ps_ret (pv 5)))))), ?_⟩
  have sz : sizeLine = 16777216 := sizeLine_eq
  refine ⟨by show 6 ≤ _; omega, fun nb nb0 => ?_⟩
  have s1 := same_new (o := .lst (NMs.map V.str)) nb0
  have hnb1 : upd H nb (.lst (NMs.map V.str)) nb = some (.lst (NMs.map V.str)) := upd_same
  have eN : ([.str "mid", .str "a", .str "zebra", .str "halt", .str "ab", .str "stop"] : List V) = NMs.map V.str := rfl
  rw [eN]
  refine ⟨Nat.zero_le _, fun l l0 => ?_⟩
  have s2 := s1.trans (same_new (o := .lst []) l0)
  have hnb2 := same_new (o := .lst []) l0 _ _ hnb1
  have lN : H l = none := by
    cases h : H l with
    | none => rfl
    | some o => rw [s1 _ _ h] at l0; cases l0
  have lp : l ≠ p := fun z => by obtain ⟨_, _, h, _⟩ := hd; rw [z, h] at lN; cases lN
  have lq : l ≠ q := fun z => by obtain ⟨_, _, _, h, _⟩ := hd; rw [z, h] at lN; cases lN
  have nbp : nb ≠ p := fun z => by obtain ⟨_, _, h, _⟩ := hd; rw [z, h] at nb0; cases nb0
  have nbl : nb ≠ l := fun z => by rw [← z, upd_same] at l0; cases l0
  have nL : ∀ b' o, H b' = some o → b' ≠ l := fun b' o h z => by rw [z, lN] at h; cases h
  have drk : ∀ (H' : Hp) (x : Addr) (o : HO), x ≠ p → x ≠ q → Dr H' p q → Dr (upd H' x o) p q := fun H' x o xp xq ⟨ms, j, h1, h2, h3⟩ => ⟨ms, j, by rw [upd_ne xp.symm]; exact h1, by rw [upd_ne xq.symm]; exact h2, h3⟩
  refine ⟨_, rfl, _, rfl, by omega, by omega, ?_⟩
  refine for_range (lo := 0) (n := ((m : Nat) : Int).toNat) (fun i σ H3 => Dr H3 p q ∧ KP p H H3 ∧ H3 nb = some (.lst (NMs.map V.str)) ∧ (∃ ts F, H3 l = some (.lst ts) ∧ Refs H3 ts F (RowQ p l) ∧ F.length = i ∧ (∀ f ∈ F, PatsOk n r f.ps) ∧ F.map FM.nm = NMs.take i) ∧ ∃ v6 v7 : Option V, σ = [some (.ref p), some (.int (n : Nat)), some (.int (r : Nat)), some (.int (m : Nat)), some (.ref nb), some (.ref l), v6, v7])
    ⟨hd.news s2, KP.of s2, hnb2, ⟨[], [], upd_same, Refs.nil, rfl, (fun f hf => by cases hf), rfl⟩, none, none, rfl⟩ ?_ ?_
  · rintro i σ H3 hi ⟨d3, kp3, hnb3, ⟨ts, F, hl3, hR, hFl, hFo, hFn⟩, v6, v7, rfl⟩
    rw [Int.toNat_natCast] at hi
    have htl := hR.1
    refine ⟨fun σ' H' => Dr H' p q ∧ KP p H3 H' ∧ (∃ pa ps, H3 pa = none ∧ H' pa = some (.lst (ps.map V.str)) ∧ PatsOk n r ps ∧ σ' = [some (.ref p), some (.int (n : Nat)), some (.int (r : Nat)), some (.int (m : Nat)), some (.ref nb), some (.ref l), some (.int (0 + (i : Int))), some (.ref pa)]), ?_, ?_⟩
    · have fresh : ∀ (H4 : Hp) (pa : Addr), KP p H3 H4 → Dr H4 p q → H4 pa = none → H3 pa = none := fun H4 pa k4 d4 h4 => by
        have pap : pa ≠ p := fun z => by obtain ⟨_, _, h, _⟩ := d4; rw [z, h] at h4; cases h4
        cases h : H3 pa with
        | none => rfl
        | some o => rw [k4 _ _ h pap] at h4; cases h4
      have five : ∀ v : Int, 0 ≤ v → v < 5 → ∃ m' : Nat, atI ([.int 1, .int 2, .int 1, .int 3, .int 2] : List V) v = some (.int (m' : Nat)) ∧ 1 ≤ m' ∧ m' ≤ 3 := fun v v0 v1 => by
        have : v = 0 ∨ v = 1 ∨ v = 2 ∨ v = 3 ∨ v = 4 := by omega
        rcases this with rfl | rfl | rfl | rfl | rfl
        · exact ⟨1, rfl, by decide, by decide⟩
        · exact ⟨2, rfl, by decide, by decide⟩
        · exact ⟨1, rfl, by decide, by decide⟩
        · exact ⟨3, rfl, by decide, by decide⟩
        · exact ⟨2, rfl, by decide, by decide⟩
      refine ⟨_, rfl, _, _, rfl, rfl, _, rfl, iteB (fun e => ?_) fun e => ?_⟩
      · have hi0 := of_decide_eq_true e
        refine ⟨_, rfl, p, q, _, rfl, d3, hpq, by decide, fun H4 x x0 x1 d4 k4 => ⟨rfl, _, rfl, ?_⟩⟩
        refine iteB (fun e2 => ?_) fun e2 => ?_
        · refine ⟨_, rfl, _, rfl, _, rfl, _, rfl, p, q, _, rfl, d4, hpq, by omega, fun H5 v v0 v1 d5 k5 => ?_⟩
          obtain ⟨t, f, hf, ht, hq⟩ := hR.at (i := v.toNat) (by omega)
          have kp5 := KP.trans k4 k5
          obtain ⟨tp, tl', pa, la, pp, pl', lap, lal, ht3, hpa3, hla3⟩ := hq
          have hl5 := kp5 _ _ hl3 lp
          have hvat : atI ts v = some (.ref t) := by rw [show v = ((v.toNat : Nat) : Int) by omega]; exact atI_nat ht
          refine ⟨l, ts, v, .ref t, rfl, rfl, SqL.of hl5, hvat, t, _, 1, _, rfl, rfl, SqT.of (kp5 _ _ ht3 tp), rfl, p, q, pa, f.ps, n, r, rfl, d5, hpq, kp5 _ _ hpa3 pp, hFo f (List.mem_of_getElem? hf), n4, n8, fun H6 pb qs d6 k6 pb0 hpb hok => ?_⟩
          exact ⟨d6, KP.trans kp5 k6, pb, qs, fresh H5 pb kp5 d5 pb0, hpb, hok, rfl⟩
        · skip
          refine ⟨_, rfl, _, rfl, _, rfl, by show 5 ≤ _; omega, fun b5 b50 => ?_⟩
          have s5 := same_new (o := .lst [.int 1, .int 2, .int 1, .int 3, .int 2]) b50
          have b5p : b5 ≠ p := fun z => by obtain ⟨_, _, h, _⟩ := d4; rw [z, h] at b50; cases b50
          refine ⟨_, rfl, p, q, _, rfl, d4.news s5, hpq, by decide, fun H6 v v0 v1 d6 k6 => ?_⟩
          obtain ⟨m', hat, m1', m3'⟩ := five v v0 v1
          have kp6 := KP.trans (k4) (KP.trans (KP.of s5) k6)
          refine ⟨b5, _, v, _, rfl, rfl, SqL.of (k6 _ _ upd_same b5p), hat, p, q, n, r, m', rfl, d6, hpq, n4, n8, hr', m1', m3', fun H7 pa qs d7 k7 pa0 hpa hok => ?_⟩
          exact ⟨d7, KP.trans kp6 k7, pa, qs, fresh H6 pa kp6 d6 pa0, hpa, hok, rfl⟩
      · refine iteN (by decide) ?_
        refine ⟨_, rfl, _, rfl, _, rfl, by show 5 ≤ _; omega, fun b5 b50 => ?_⟩
        have s5 := same_new (o := .lst [.int 1, .int 2, .int 1, .int 3, .int 2]) b50
        have b5p : b5 ≠ p := fun z => by obtain ⟨_, _, h, _⟩ := d3; rw [z, h] at b50; cases b50
        refine ⟨_, rfl, p, q, _, rfl, d3.news s5, hpq, by decide, fun H6 v v0 v1 d6 k6 => ?_⟩
        obtain ⟨m', hat, m1', m3'⟩ := five v v0 v1
        have kp6 := KP.trans (KP.of (Same.refl H3)) (KP.trans (KP.of s5) k6)
        refine ⟨b5, _, v, _, rfl, rfl, SqL.of (k6 _ _ upd_same b5p), hat, p, q, n, r, m', rfl, d6, hpq, n4, n8, hr', m1', m3', fun H7 pa qs d7 k7 pa0 hpa hok => ?_⟩
        exact ⟨d7, KP.trans kp6 k7, pa, qs, fresh H6 pa kp6 d6 pa0, hpa, hok, rfl⟩
    · rintro σ' H4 ⟨d4, k4, pa, ps, pa0, hpa, hpok, rfl⟩
      have hl4 := k4 _ _ hl3 lp
      have hnb4 := k4 _ _ hnb3 nbp
      have pap : pa ≠ p := fun z => by obtain ⟨_, _, h, _⟩ := d3; rw [z, h] at pa0; cases pa0
      have pal : pa ≠ l := fun z => by rw [z, hl3] at pa0; cases pa0
      have hin : i < NMs.length := by show i < 6; omega
      have hnm := List.getElem?_eq_getElem hin
      generalize NMs[i] = nm at hnm
      have hnat : atI (NMs.map V.str) (0 + (i : Int)) = some (.str nm) := by
        rw [show (0 + (i : Int)) = (i : Int) by omega]; exact atI_nat (by rw [List.getElem?_map, hnm]; rfl)
      refine ⟨_, rfl, .inl ⟨rfl, _, SqL.of hl4⟩, _, rfl, _, rfl, nb, _, _, _, rfl, rfl, SqL.of hnb4, hnat, _, rfl, Nat.zero_le _, fun la la0 => ?_⟩
      have s5 := same_new (o := .lst []) la0
      have lap : la ≠ p := fun z => by obtain ⟨_, _, h, _⟩ := d4; rw [z, h] at la0; cases la0
      have lal : la ≠ l := fun z => by rw [z, hl4] at la0; cases la0
      refine ⟨by show 3 ≤ _; omega, fun t t0 => ?_⟩
      have s6 := same_new (o := .tup [.str nm, .ref pa, .ref la]) t0
      have tp : t ≠ p := fun z => by obtain ⟨_, _, h, _⟩ := d4.news s5; rw [z, h] at t0; cases t0
      have tl' : t ≠ l := fun z => by rw [z, s5 _ _ hl4] at t0; cases t0
      have hl6 := s6 _ _ (s5 _ _ hl4)
      refine ⟨l, ts, _, rfl, rfl, hl6, by omega, ?_⟩
      have S6 := s5.trans s6
      refine ⟨drk _ _ _ lp lq (d4.news S6), fun b' o h hb => by rw [upd_ne (nL b' o h)]; exact S6 _ _ (k4 _ _ (kp3 _ _ h hb) hb), by rw [upd_ne nbl]; exact S6 _ _ hnb4, ⟨_, F ++ [⟨nm, ps⟩], upd_same, (hR.map fun u f _ h => h.keep fun b' o h1 h2 h3 => by rw [upd_ne h3]; exact S6 _ _ (k4 _ _ h1 h2)).snoc ⟨tp, tl', pa, la, pap, pal, lap, lal, ?_, ?_, ?_⟩, by simp [hFl], fun f hf => ?_, ?_⟩, _, _, rfl⟩
      · rw [upd_ne tl', upd_same]
      · rw [upd_ne pal]; exact S6 _ _ hpa
      · rw [upd_ne lal]; exact s6 _ _ upd_same
      · rcases List.mem_append.mp hf with hf | hf
        · exact hFo f hf
        · rw [List.mem_singleton.mp hf]; exact hpok
      · rw [List.map_append, hFn, List.take_succ, hnm]; rfl
  · rintro σ H3 ⟨d3, kp3, hnb3, ⟨ts, F, hl3, hR, hFl, hFo, hFn⟩, v6, v7, rfl⟩
    rw [Int.toNat_natCast] at hFl hFn
    refine ⟨_, rfl, k _ l F d3 kp3 lN ⟨ts, hl3, hR⟩ ⟨n4, n8, by omega, by omega, by omega, by omega, ?_, fun f hf => ?_, hFo⟩ hFl⟩
    · rw [hFn]; exact nms_nd.sublist (List.take_sublist _ _)
    · refine nms_ok _ (List.mem_of_mem_take (i := m) ?_)
      rw [← hFn]; exact List.mem_map_of_mem hf
end
end My

/-! LL -/
namespace My
open PySem L2
local macro_rules | `(tactic| walk_at "side") => `(tactic| first | with_reducible rfl | assumption | rfl | decide | omega | exact cpow1 (by omega) (by omega) | exact cdiv (by omega) (by omega) | exact two_pos _ | exact SqL.of (by assumption) | exact SqT.of (by assumption) | exact TyX.base (TyOf.int _) | exact TyX.base (TyOf.bl _) | exact TyX.base TyOf.non | exact scal_opt _ _ | exact k_ii | exact k_bi | exact k_ni | exact k_ib | exact k_bb | exact TyX.base (TyOf.lst (by assumption)) | exact k_ll | exact k_lt)
local macro_rules | `(tactic| walk_at "p") => `(tactic| repeat (first | refine And.intro (by walk_at "side") ?_ | apply Exists.intro | refine iteN (by assumption) ?_ | refine iteP (by assumption) ?_ | refine iteN (by decide) ?_ | refine iteP (by decide) ?_))

theorem Dr.lst {H : Hp} {p q : Addr} (h : Dr H p q) : ∃ k : Nat, H p = some (.lst [.int k, .ref q]) := by obtain ⟨_, k, h, _⟩ := h; exact ⟨k, h⟩
theorem RowsAt.kp {H H' : Hp} {a p q : Addr} {F : List FM} (h : RowsAt H a F) (d : Dr H p q) (k : KP p H H') : RowsAt H' a F := by
  obtain ⟨kk, hp⟩ := d.lst
  obtain ⟨ts, h1, h2⟩ := h
  have ha : a ≠ p := fun z => by
    rw [z, hp] at h1
    have e : [V.int (kk : Int), .ref q] = ts := HO.lst.inj (Option.some.inj h1)
    cases F with
    | nil =>
      have := h2.1
      rw [← e] at this; cases this
    | cons f r =>
      obtain ⟨u, hu, _⟩ := h2.2 0 f rfl
      rw [← e] at hu; cases hu
  refine ⟨ts, k _ _ h1 ha, h2.map fun u f _ ⟨pa, la, e1, e2, e3⟩ => ⟨pa, la, k _ _ e1 (fun z => by rw [z, hp] at e1; cases e1), k _ _ e2 (fun z => ?_), k _ _ e3 (fun z => by rw [z, hp] at e3; cases e3)⟩⟩
  rw [z, hp] at e2
  have e : [V.int (kk : Int), .ref q] = f.ps.map V.str := HO.lst.inj (Option.some.inj e2)
  cases hf : f.ps with
  | nil => rw [hf] at e; cases e
  | cons x r => rw [hf] at e; cases e
section
variable {P : Program} {w : World} {K : PySem.W.Frag} {mg : Str → Option Value} {base : Heap}
end
end My

/-! LN -/
namespace My
open PySem L2
local macro_rules | `(tactic| walk_at "side") => `(tactic| first | with_reducible rfl | assumption | rfl | decide | omega | exact cpow1 (by omega) (by omega) | exact cdiv (by omega) (by omega) | exact two_pos _ | exact SqL.of (by assumption) | exact SqT.of (by assumption) | exact TyX.base (TyOf.int _) | exact TyX.base (TyOf.bl _) | exact TyX.base TyOf.non | exact scal_opt _ _ | exact k_ii | exact k_bi | exact k_ni | exact k_ib | exact k_bb | exact TyX.base (TyOf.lst (by assumption)) | exact k_ll | exact k_lt)
local macro_rules | `(tactic| walk_at "p") => `(tactic| repeat (first | refine And.intro (by walk_at "side") ?_ | apply Exists.intro | refine iteN (by assumption) ?_ | refine iteP (by assumption) ?_ | refine iteN (by decide) ?_ | refine iteP (by decide) ?_))

theorem decX_len {F : List FM} {n : Nat} {xs : List V} {o : Option FM} : ∀ (k : Nat) (L0 L : List Nat), decX F n xs k L0 = (some o, L) → L0.length ≤ L.length ∧ L.length ≤ L0.length + k ∧ (1 ≤ k → L0.length < L.length)
  | 0, L0, L, h => by rw [decX] at h; cases h; exact ⟨Nat.le_refl _, by omega, fun z => by omega⟩
  | k + 1, L0, L, h => by
    rw [decX] at h
    cases hc : cellW n xs[L0.length]? with
    | none => rw [hc] at h; cases h
    | some c =>
      rw [hc] at h
      dsimp only at h
      have e : (L0 ++ [c]).length = L0.length + 1 := by simp
      cases hf : formAt F (L0 ++ [c]) with
      | some f => rw [hf] at h; cases h; omega
      | none =>
        rw [hf] at h
        dsimp only at h
        split at h
        · have := decX_len k _ _ h
          omega
        · cases h; omega
theorem decX_mem {F : List FM} {n : Nat} {xs : List V} {f : FM} : ∀ (k : Nat) (L0 L : List Nat), decX F n xs k L0 = (some (some f), L) → f ∈ F
  | 0, L0, L, h => by rw [decX] at h; cases h
  | k + 1, L0, L, h => by
    rw [decX] at h
    cases hc : cellW n xs[L0.length]? with
    | none => rw [hc] at h; cases h
    | some c =>
      rw [hc] at h
      dsimp only at h
      cases hf : formAt F (L0 ++ [c]) with
      | some g => rw [hf] at h; cases h; exact List.mem_of_find?_eq_some hf
      | none =>
        rw [hf] at h
        dsimp only at h
        split at h
        · exact decX_mem k _ _ h
        · cases h
theorem decX_agree {F : List FM} {n : Nat} {xs ys : List V} {o : Option FM} : ∀ (k : Nat) (L0 L : List Nat), decX F n xs k L0 = (some o, L) → (∀ i, L0.length ≤ i → i < L.length → ys[i]? = xs[i]?) → decX F n ys k L0 = (some o, L)
  | 0, L0, L, h, _ => by rw [decX] at h ⊢; exact h
  | k + 1, L0, L, h, g => by
    have hlt := (decX_len _ _ _ h).2.2 (by omega)
    rw [decX] at h ⊢
    rw [g _ (Nat.le_refl _) hlt]
    cases hc : cellW n xs[L0.length]? with
    | none => rw [hc] at h; cases h
    | some c =>
      rw [hc] at h
      dsimp only at h ⊢
      cases hf : formAt F (L0 ++ [c]) with
      | some f => rw [hf] at h; exact h
      | none =>
        rw [hf] at h
        dsimp only at h ⊢
        split at h
        · rename_i hg
          rw [if_pos hg]
          exact decX_agree k _ _ h fun i h1 h2 => g i (by simp at h1; omega) h2
        · rename_i hg
          rw [if_neg hg]; exact h
theorem decX_refuse {F : List FM} {n j : Nat} {xs ys : List V} {o : Option FM} : ∀ (k : Nat) (L0 L : List Nat), decX F n xs k L0 = (some o, L) → L0.length ≤ j → j < L.length → (∀ i, L0.length ≤ i → i < j → ys[i]? = xs[i]?) → cellW n ys[j]? = none → ∃ L', decX F n ys k L0 = (none, L') ∧ L'.length = j
  | 0, L0, L, h, h1, h2, _, _ => by rw [decX] at h; cases h; omega
  | k + 1, L0, L, h, h1, h2, g, hn => by
    rw [decX] at h ⊢
    rcases Nat.lt_or_ge L0.length j with hlt | hge
    · rw [g _ (Nat.le_refl _) hlt]
      cases hc : cellW n xs[L0.length]? with
      | none => rw [hc] at h; cases h
      | some c =>
        rw [hc] at h
        dsimp only at h ⊢
        have e : (L0 ++ [c]).length = L0.length + 1 := by simp
        cases hf : formAt F (L0 ++ [c]) with
        | some f => rw [hf] at h; cases h; omega
        | none =>
          rw [hf] at h
          dsimp only at h ⊢
          split at h
          · rename_i hg
            rw [if_pos hg]
            exact decX_refuse k _ _ h (by omega) h2 (fun i h3 h4 => g i (by omega) h4) hn
          · cases h; omega
    · have : L0.length = j := by omega
      rw [this, hn]
      exact ⟨_, rfl, this⟩
theorem RowP.kp {H H' : Hp} {p q t : Addr} {f : FM} (h : RowP H t f) (d : Dr H p q) (k : KP p H H') : RowP H' t f := by
  obtain ⟨kk, hp⟩ := d.lst
  obtain ⟨pa, la, e1, e2, e3⟩ := h
  refine ⟨pa, la, k _ _ e1 (fun z => by rw [z, hp] at e1; cases e1), k _ _ e2 (fun z => ?_), k _ _ e3 (fun z => by rw [z, hp] at e3; cases e3)⟩
  rw [z, hp] at e2
  have e : [V.int (kk : Int), .ref q] = f.ps.map V.str := HO.lst.inj (Option.some.inj e2)
  cases hf : f.ps with
  | nil => rw [hf] at e; cases e
  | cons x r => rw [hf] at e; cases e
theorem nats_ne {H : Hp} {p q c : Addr} {cs : List Nat} (d : Dr H p q) (hc : H c = some (.lst (natsV cs))) : c ≠ p := fun z => by
  obtain ⟨kk, hp⟩ := d.lst
  rw [z, hp] at hc
  have e : [V.int (kk : Int), .ref q] = natsV cs := HO.lst.inj (Option.some.inj hc)
  unfold natsV at e
  cases cs with
  | nil => cases e
  | cons x r =>
    cases r with
    | nil => cases e
    | cons y r => cases e
theorem DueAt.lst {H : Hp} {d : Addr} {o : Option FM} {L : List Nat} (h : DueAt H d o L) : ∃ x0 nl, H d = some (.lst [x0, .ref nl, .int (L.length : Nat)]) := by
  cases o with
  | none => obtain ⟨nl, h⟩ := h; exact ⟨_, nl, h⟩
  | some f => obtain ⟨r, nl, h, _⟩ := h; exact ⟨_, nl, h⟩
theorem DueAt.kp {H H' : Hp} {p q d : Addr} {o : Option FM} {L : List Nat} (h : DueAt H d o L) (dr : Dr H p q) (k : KP p H H') : DueAt H' d o L := by
  obtain ⟨kk, hp⟩ := dr.lst
  have ne : ∀ x0 nl, H d = some (.lst [x0, .ref nl, .int (L.length : Nat)]) → d ≠ p := fun x0 nl e z => by rw [z, hp] at e; cases e
  cases o with
  | none => obtain ⟨nl, h⟩ := h; exact ⟨nl, k _ _ h (ne _ _ h)⟩
  | some f =>
    obtain ⟨r, nl, h1, h2, h3⟩ := h
    exact ⟨r, nl, k _ _ h1 (ne _ _ h1), h2.kp dr k, k _ _ h3 (nats_ne dr h3)⟩
theorem BookAt.kp {CB CF : Addr} {H H' : Hp} {p q b : Addr} {n r : Nat} {F : List FM} (h : BookAt CB CF H b n r F) (dr : Dr H p q) (k : KP p H H') : BookAt CB CF H' b n r F := by
  obtain ⟨kk, hp⟩ := dr.lst
  exact h.nl fun a o e n => k _ _ e fun z => by rw [z, hp] at e; exact n _ (Option.some.inj e).symm
theorem DueAt.news {H H' : Hp} {d : Addr} {o : Option FM} {L : List Nat} (h : DueAt H d o L) (s : Same H H') : DueAt H' d o L := by
  cases o with
  | none => obtain ⟨nl, h⟩ := h; exact ⟨nl, s _ _ h⟩
  | some f =>
    obtain ⟨r, nl, h1, h2, h3⟩ := h
    exact ⟨r, nl, s _ _ h1, h2.news s, s _ _ h3⟩
theorem nats_plain (cs : List Nat) : ∀ x ∈ natsV cs, plain4 x = true := fun x hx => by
  obtain ⟨c, _, rfl⟩ := List.mem_map.mp hx
  rfl
theorem eqIn {K : PySem.W.Frag} {H : Hp} {i : Int} {Q : VK} (k : Q (.bl true) H) : rEqD K (.int i) (.int i) H Q := ⟨_, _, .int i, .int i, shI i, shI i, by rw [show PyData.eqv (.int i) (.int i) = true by simp [PyData.eqv]]; exact k⟩
theorem spoiled (n : Nat) : ∀ v : Int, 0 ≤ v → v < 5 → ∃ x, atI ([.int (1 * 2 ^ ((n : Nat) : Int).toNat), .int (-1), .non, .bl true, .str "1"] : List V) v = some x ∧ plain4 x = true ∧ cellW n (some x) = none := fun v v0 v1 => by
  have : v = 0 ∨ v = 1 ∨ v = 2 ∨ v = 3 ∨ v = 4 := by omega
  rcases this with rfl | rfl | rfl | rfl | rfl
  · refine ⟨_, rfl, rfl, ?_⟩
    unfold cellW
    refine if_neg fun ⟨_, h⟩ => ?_
    rw [Int.one_mul, Int.toNat_natCast] at h
    omega
  · refine ⟨_, rfl, rfl, ?_⟩
    unfold cellW
    refine if_neg fun ⟨h, _⟩ => ?_
    omega
  all_goals exact ⟨_, rfl, rfl, rfl⟩
section
variable {P : Program} {w : World} {K : PySem.W.Frag} {mg : Str → Option Value} {base : Heap}
end
end My

/-! LO -/
namespace My
open PySem L2
local macro_rules | `(tactic| walk_at "side") => `(tactic| first | with_reducible rfl | assumption | rfl | decide | omega | exact cpow1 (by omega) (by omega) | exact cdiv (by omega) (by omega) | exact two_pos _ | exact SqL.of (by assumption) | exact SqT.of (by assumption) | exact TyX.base (TyOf.int _) | exact TyX.base (TyOf.bl _) | exact TyX.base TyOf.non | exact scal_opt _ _ | exact k_ii | exact k_bi | exact k_ni | exact k_ib | exact k_bb | exact TyX.base (TyOf.lst (by assumption)) | exact k_ll | exact k_lt)
local macro_rules | `(tactic| walk_at "p") => `(tactic| repeat (first | refine And.intro (by walk_at "side") ?_ | apply Exists.intro | refine iteN (by assumption) ?_ | refine iteP (by assumption) ?_ | refine iteN (by decide) ?_ | refine iteP (by decide) ?_))

theorem fit_at : ∀ (p : List Nat) (c k s : Nat), fitB p c = true → p[k]? = some s → (s = 48 → c.testBit (p.length - 1 - k) = false) ∧ (s = 49 → c.testBit (p.length - 1 - k) = true)
  | [], _, _, _, _, h => by simp at h
  | x :: r, c, 0, s, hf, h => by
    cases h
    rw [fitB, Bool.and_eq_true, Bool.and_eq_true] at hf
    obtain ⟨⟨h1, h2⟩, _⟩ := hf
    rw [show (x :: r).length - 1 - 0 = r.length from rfl]
    constructor
    · rintro rfl; simpa using h1
    · rintro rfl; simpa using h2
  | x :: r, c, k + 1, s, hf, h => by
    rw [fitB, Bool.and_eq_true] at hf
    have := fit_at r c k s hf.2 h
    rw [show (x :: r).length - 1 - (k + 1) = r.length - 1 - k by rw [List.length_cons]; omega]
    exact this
theorem fit_clash {x y : List Nat} {c : Nat} (hl : x.length = y.length) (h1 : fitB x c = true) (h2 : fitB y c = true) : clashP x y = true := by
  unfold clashP
  rw [List.all_eq_true]
  rintro ⟨s, t⟩ hm
  obtain ⟨k, hk⟩ := List.getElem?_of_mem hm
  obtain ⟨hx, hy⟩ := List.getElem?_zip_eq_some.mp hk
  have a := fit_at x c k s h1 hx
  have b := fit_at y c k t h2 hy
  rw [← hl] at b
  unfold okP
  cases e1 : (s == 48 && t == 49) with
  | true =>
    have z := Bool.and_eq_true _ _ ▸ e1
    have := (a.1 (eq_of_beq z.1)).symm.trans (b.2 (eq_of_beq z.2))
    cases this
  | false =>
    cases e2 : (s == 49 && t == 48) with
    | true =>
      have z := Bool.and_eq_true _ _ ▸ e2
      have := (b.1 (eq_of_beq z.2)).symm.trans (a.2 (eq_of_beq z.1))
      cases this
    | false => rfl
/-- two forms that fit the same cells clash -/
theorem may_clash {f g : FM} {cs : List Nat} {n : Nat} (hf : ∀ z ∈ f.ps, z.length = n) (hg : ∀ z ∈ g.ps, z.length = n) (hl : f.ps.length ≤ cs.length) (h1 : mayB f.pl cs = true) (h2 : mayB g.pl cs = true) : clashB f.pl g.pl = true := by
  unfold clashB
  rw [List.all_eq_true]
  rintro ⟨x, y⟩ hm
  obtain ⟨k, hk⟩ := List.getElem?_of_mem hm
  obtain ⟨hx, hy⟩ := List.getElem?_zip_eq_some.mp hk
  have kl : k < cs.length := by
    have := (List.getElem?_eq_some_iff.mp hx).1
    unfold FM.pl at this
    rw [List.length_map] at this
    omega
  have hc := List.getElem?_eq_getElem kl
  unfold mayB at h1 h2
  have a := List.all_eq_true.mp h1 _ (List.mem_of_getElem? (List.getElem?_zip_eq_some (z := (x, cs[k])).mpr ⟨hx, hc⟩))
  have b := List.all_eq_true.mp h2 _ (List.mem_of_getElem? (List.getElem?_zip_eq_some (z := (y, cs[k])).mpr ⟨hy, hc⟩))
  refine fit_clash ?_ a b
  have len : ∀ (h : FM) (w : List Nat), (∀ z ∈ h.ps, z.length = n) → w ∈ h.pl → w.length = n := fun h w hh hw => by
    unfold FM.pl at hw
    obtain ⟨z, hz, rfl⟩ := List.mem_map.mp hw
    rw [Array.length_toList]; exact hh z hz
  rw [len f x hf (List.mem_of_getElem? hx), len g y hg (List.mem_of_getElem? hy)]
/-- at most one of rows apart fits -/
theorem apart_one {G : List FM} {cs : List Nat} {n : Nat} (hp : G.Pairwise (fun g f => clashB f.pl g.pl = false)) (hG : ∀ f ∈ G, f.ps.length ≤ cs.length ∧ ∀ z ∈ f.ps, z.length = n) : (G.filter fun f => mayB f.pl cs).length ≤ 1 := by
  have h := hp.filter (fun f => mayB f.pl cs)
  cases e : G.filter fun f => mayB f.pl cs with
  | nil => exact Nat.zero_le _
  | cons g r =>
    cases r with
    | nil => exact Nat.le_refl _
    | cons f r =>
      exfalso
      rw [e] at h
      have hgf := (List.pairwise_cons.mp h).1 f (by simp)
      have mg : g ∈ G.filter fun f => mayB f.pl cs := by rw [e]; simp
      have mf : f ∈ G.filter fun f => mayB f.pl cs := by rw [e]; simp
      obtain ⟨g1, g2⟩ := List.mem_filter.mp mg
      obtain ⟨f1, f2⟩ := List.mem_filter.mp mf
      have := may_clash (hG f f1).2 (hG g g1).2 (hG f f1).1 f2 g2
      rw [hgf] at this; cases this
theorem may_take {ps : List (List Nat)} {cs : List Nat} {k : Nat} (h : mayB ps cs = true) : mayB ps (cs.take k) = true := by
  unfold mayB at h ⊢
  rw [List.all_eq_true] at h ⊢
  rintro ⟨x, c⟩ hm
  obtain ⟨i, hi⟩ := List.getElem?_of_mem hm
  obtain ⟨hx, hc⟩ := List.getElem?_zip_eq_some.mp hi
  refine h _ (List.mem_of_getElem? (i := i) (List.getElem?_zip_eq_some.mpr ⟨hx, ?_⟩))
  rw [List.getElem?_take] at hc
  split at hc
  · exact hc
  · cases hc
/-- the cells that are words: decX goes through -/
theorem decX_words {F : List FM} {n : Nat} {cs : List Nat} (hcs : ∀ c ∈ cs, c < 2 ^ n) : ∀ (k i : Nat), i + k ≤ cs.length → ∃ o j, decX F n (natsV cs) k (cs.take i) = (some o, cs.take j) ∧ i ≤ j ∧ j ≤ i + k ∧
    (∀ f, o = some f → f ∈ F ∧ f.ps.length = j ∧ mayB f.pl (cs.take j) = true) ∧ (o = none → ∀ f ∈ F, mayB f.pl cs = true → i < f.ps.length → i + k < f.ps.length)
  | 0, i, _ => ⟨none, i, by rw [decX], Nat.le_refl _, Nat.le_refl _, (fun f h => by cases h), fun _ f _ _ h => by simpa using h⟩
  | k + 1, i, hi => by
    have hic : i < cs.length := by omega
    have hc := List.getElem?_eq_getElem hic
    have hc2 := hcs _ (List.getElem_mem hic)
    have htk : (cs.take i).length = i := by rw [List.length_take]; omega
    have hcw : cellW n (natsV cs)[(cs.take i).length]? = some cs[i] := by
      rw [htk]
      unfold natsV
      rw [List.getElem?_map, hc]
      show (if (0 : Int) ≤ (cs[i] : Nat) ∧ ((cs[i] : Nat) : Int) < 2 ^ n then _ else _) = _
      have e2 : ((2 ^ n : Nat) : Int) = 2 ^ n := Int.natCast_pow 2 n
      rw [if_pos ⟨by omega, by omega⟩, Int.toNat_natCast]
    have hsn : cs.take i ++ [cs[i]] = cs.take (i + 1) := by rw [List.take_succ, hc]; rfl
    have hl1 : (cs.take (i + 1)).length = i + 1 := by rw [List.length_take]; omega
    rw [decX, hcw]
    dsimp only
    rw [hsn]
    cases hf : formAt F (cs.take (i + 1)) with
    | some f =>
      have h1 := List.find?_some hf
      have h2 := List.mem_of_find?_eq_some hf
      have h3 := Bool.and_eq_true _ _ ▸ h1
      have e : f.ps.length = (cs.take (i + 1)).length := eq_of_beq h3.1
      exact ⟨some f, i + 1, rfl, by omega, by omega, (fun g hg => by cases hg; exact ⟨h2, by omega, h3.2⟩), fun h => by cases h⟩
    | none =>
      dsimp only
      have nf : ∀ f ∈ F, mayB f.pl cs = true → f.ps.length ≠ i + 1 := fun f hfm hm hl => by
        have := List.find?_eq_none.mp hf f hfm
        refine this ?_
        rw [hl, hl1, may_take hm]; simp
      split
      · obtain ⟨o, j, e, j1, j2, h1, h2⟩ := decX_words hcs k (i + 1) (by omega)
        refine ⟨o, j, e, by omega, by omega, h1, fun ho f hfm hm hlt => ?_⟩
        have := nf f hfm hm
        have := h2 ho f hfm hm (by omega)
        omega
      · rename_i hg
        refine ⟨none, i + 1, rfl, by omega, by omega, (fun f h => by cases h), fun _ f hfm hm hlt => ?_⟩
        exfalso
        have h1 := nf f hfm hm
        refine hg ?_
        unfold goesM
        rw [List.any_eq_true]
        refine ⟨f, hfm, ?_⟩
        rw [may_take hm, Bool.and_true]
        exact decide_eq_true (by rw [hl1]; omega)
theorem BookOk.sub {n r : Nat} {F G : List FM} (h : BookOk n r F) (s : G.Sublist F) (g1 : 1 ≤ G.length) : BookOk n r G :=
  ⟨h.n4, h.n8, h.r1, h.r4, g1, Nat.le_trans s.length_le h.f32, (s.map FM.nm).nodup h.nd, fun f hf => h.nm f (s.subset hf), fun f hf => h.ps f (s.subset hf)⟩
theorem BookOk.forms {n r : Nat} {F : List FM} (h : BookOk n r F) : FormsOk n F := ⟨h.n8, h.f32, fun f hf => ⟨(h.ps f hf).l1, (h.ps f hf).l3, fun z hz => ((h.ps f hf).pat z hz).1⟩⟩
theorem dpAll_nats {K : PySem.W.Frag} {H : Hp} : ∀ cs : List Nat, DpAll K H (natsV cs) (cs.map fun (c : Nat) => PyData.int (c : Int))
  | [] => .nil
  | c :: r => .cons (.int (c : Int)) (dpAll_nats r)
theorem shaped_nats (cs : List Nat) : SeqAt.shaped (.list (cs.map fun (c : Nat) => PyData.int (c : Int))) = true := by
  have h1 : ∀ cs : List Nat, PyData.canLayAll0 (cs.map fun (c : Nat) => PyData.int (c : Int)) = true := fun cs => by
    induction cs with
    | nil => simp [PyData.canLayAll0]
    | cons c r ih => simp [PyData.canLayAll0, PyData.canLay0, ih]
  have h2 : ∀ cs : List Nat, PyData.depthAll (cs.map fun (c : Nat) => PyData.int (c : Int)) ≤ 1 := fun cs => by
    induction cs with
    | nil => simp [PyData.depthAll]
    | cons c r ih => simp [PyData.depthAll, PyData.depth]; omega
  have := h2 cs
  simp [SeqAt.shaped, PyData.canLay0, PyData.depth, h1 cs]; omega
theorem eqv_nats : ∀ cs : List Nat, PyData.eqvAll (cs.map fun (c : Nat) => PyData.int (c : Int)) (cs.map fun (c : Nat) => PyData.int (c : Int)) = true
  | [] => by simp [PyData.eqvAll]
  | c :: r => by simp [PyData.eqvAll, PyData.eqv, eqv_nats r]
theorem neNats {K : PySem.W.Frag} {H : Hp} {a b : Addr} {cs : List Nat} {Q : VK} (ha : H a = some (.lst (natsV cs))) (hb : H b = some (.lst (natsV cs))) (k : Q (.bl false) H) : rNeD K (.ref a) (.ref b) H Q :=
  ⟨_, _, .lst (SqL.of ha) (dpAll_nats cs), .lst (SqL.of hb) (dpAll_nats cs), shaped_nats cs, shaped_nats cs, by rw [show PyData.eqv (.list (cs.map fun (c : Nat) => PyData.int (c : Int))) (.list (cs.map fun (c : Nat) => PyData.int (c : Int))) = true by simp [PyData.eqv, eqv_nats cs]]; exact k⟩
end My

/-! M13 -/
/-! rows that begin with codes: the mathematics -/
namespace My
open PySem L2
/-- a sum up to m -/
def sm : Nat → (Nat → Nat) → Nat
  | 0, _ => 0
  | m + 1, g => sm m g + g m
theorem sm_congr {g h : Nat → Nat} : ∀ m, (∀ i, i < m → g i = h i) → sm m g = sm m h
  | 0, _ => rfl
  | m + 1, e => by rw [sm, sm, sm_congr m (fun i hi => e i (by omega)), e m (by omega)]
theorem sm_add (g h : Nat → Nat) : ∀ m, sm m (fun i => g i + h i) = sm m g + sm m h
  | 0 => rfl
  | m + 1 => by rw [sm, sm, sm, sm_add g h m]; omega
theorem sm_const (c : Nat) : ∀ m, sm m (fun _ => c) = m * c
  | 0 => by rw [sm, Nat.zero_mul]
  | m + 1 => by rw [sm, sm_const c m, Nat.succ_mul]
theorem sm_mul (c : Nat) (g : Nat → Nat) : ∀ m, sm m (fun i => c * g i) = c * sm m g
  | 0 => by rw [sm, sm, Nat.mul_zero]
  | m + 1 => by rw [sm, sm, sm_mul c g m, Nat.mul_add]
theorem sm_cat (g : Nat → Nat) (a : Nat) : ∀ b, sm (a + b) g = sm a g + sm b (fun i => g (a + i))
  | 0 => rfl
  | b + 1 => by rw [← Nat.add_assoc, sm, sm, sm_cat g a b]; omega
def ind (b : Bool) : Nat := if b = true then 1 else 0
theorem ind_and (a b : Bool) : ind (a && b) = ind a * ind b := by cases a <;> cases b <;> rfl
theorem fitB_congr : ∀ (r : List Nat) (c d : Nat), (∀ i, i < r.length → c.testBit i = d.testBit i) → fitB r c = fitB r d
  | [], _, _, _ => rfl
  | s :: r, c, d, h => by
    rw [fitB, fitB, h r.length (by simp), fitB_congr r c d fun i hi => h i (by rw [List.length_cons]; omega)]
def frC (p : List Nat) : Nat := p.countP fun c => !is01 c
def fxC (p : List Nat) : Nat := p.countP is01
theorem fx_fr : ∀ p : List Nat, fxC p + frC p = p.length
  | [] => rfl
  | s :: r => by
    have := fx_fr r
    unfold fxC frC at this ⊢
    rw [List.countP_cons, List.countP_cons, List.length_cons]
    cases is01 s <;> simp <;> omega
theorem fx_app (x y : List Nat) : fxC (x ++ y) = fxC x + fxC y := by unfold fxC; rw [List.countP_append]
theorem cnt_fit : ∀ p : List Nat, sm (2 ^ p.length) (fun c => ind (fitB p c)) = 2 ^ frC p
  | [] => rfl
  | s :: r => by
    have ih := cnt_fit r
    have e : (2 ^ (s :: r).length : Nat) = 2 ^ r.length + 2 ^ r.length := by rw [List.length_cons, Nat.pow_succ]; omega
    have lo : ∀ c, c < 2 ^ r.length → ind (fitB (s :: r) c) = ind (!(s == 49)) * ind (fitB r c) := fun c hc => by
      rw [← ind_and, fitB, Nat.testBit_lt_two_pow hc]; simp
    have hi : ∀ c, c < 2 ^ r.length → ind (fitB (s :: r) (2 ^ r.length + c)) = ind (!(s == 48)) * ind (fitB r c) := fun c hc => by
      rw [← ind_and, fitB, Nat.testBit_two_pow_add_eq, Nat.testBit_lt_two_pow hc, fitB_congr r (2 ^ r.length + c) c fun i hi => Nat.testBit_two_pow_add_gt hi c]; simp
    rw [e, sm_cat, sm_congr _ lo, sm_congr _ hi, sm_mul, sm_mul, ih]
    unfold frC
    rw [List.countP_cons]
    by_cases h0 : s = 48
    · subst h0; simp [ind, is01]
    by_cases h1 : s = 49
    · subst h1; simp [ind, is01]
    have e0 : (s == 48) = false := beq_false_of_ne h0
    have e1 : (s == 49) = false := beq_false_of_ne h1
    have e2 : is01 s = false := by unfold is01; rw [e0, e1]; rfl
    rw [e0, e1, e2]
    show 1 * 2 ^ _ + 1 * 2 ^ _ = 2 ^ (_ + 1)
    rw [Nat.pow_succ]; omega
/-- the rows of three cells that begin with a code of a form -/
def wt (n : Nat) (ps : List (List Nat)) : Nat := 2 ^ (3 * n - fxC ps.flatten)
theorem cnt_n {x : List Nat} {n : Nat} (h : x.length = n) : sm (2 ^ n) (fun c => ind (fitB x c)) = 2 ^ (n - fxC x) := by
  have := cnt_fit x
  have e := fx_fr x
  rw [h] at this
  rw [this, show n - fxC x = frC x by omega]
theorem form3 {n : Nat} {ps : List (List Nat)} (l1 : 1 ≤ ps.length) (l3 : ps.length ≤ 3) (hl : ∀ x ∈ ps, x.length = n) :
    sm (2 ^ n) (fun a => sm (2 ^ n) fun b => sm (2 ^ n) fun c => ind (mayB ps [a, b, c])) = wt n ps := by
  match ps, l1, l3, hl with
  | [x], _, _, hl =>
    have ex := hl x (by simp)
    have fx := fx_fr x
    have e : ∀ a b c, ind (mayB [x] [a, b, c]) = ind (fitB x a) := fun a b c => by unfold mayB; simp
    simp only [e, sm_const]
    rw [sm_mul, sm_mul, cnt_n ex, wt, ← Nat.pow_add, ← Nat.pow_add]
    congr 1
    simp only [List.flatten_cons, List.flatten_nil, List.append_nil]
    omega
  | [x, y], _, _, hl =>
    have ex := hl x (by simp)
    have ey := hl y (by simp)
    have fx := fx_fr x
    have fy := fx_fr y
    have e : ∀ a b c, ind (mayB [x, y] [a, b, c]) = ind (fitB x a) * ind (fitB y b) := fun a b c => by unfold mayB; simp [ind_and]
    simp only [e, sm_const, sm_mul, cnt_n ey]
    have e2 : ∀ a, ind (fitB x a) * 2 ^ (n - fxC y) = 2 ^ (n - fxC y) * ind (fitB x a) := fun a => Nat.mul_comm _ _
    simp only [e2, sm_mul]
    rw [cnt_n ex, wt, ← Nat.pow_add, ← Nat.pow_add]
    congr 1
    simp only [List.flatten_cons, List.flatten_nil, List.append_nil, fx_app]
    omega
  | [x, y, z], _, _, hl =>
    have ex := hl x (by simp)
    have ey := hl y (by simp)
    have ez := hl z (by simp)
    have fx := fx_fr x
    have fy := fx_fr y
    have fz := fx_fr z
    have e : ∀ a b c, ind (mayB [x, y, z] [a, b, c]) = ind (fitB x a) * (ind (fitB y b) * ind (fitB z c)) := fun a b c => by unfold mayB; simp [ind_and]
    simp only [e, sm_mul, cnt_n ez]
    have e2 : ∀ a, ind (fitB y a) * 2 ^ (n - fxC z) = 2 ^ (n - fxC z) * ind (fitB y a) := fun a => Nat.mul_comm _ _
    simp only [e2, sm_mul, cnt_n ey]
    have e3 : ∀ a, ind (fitB x a) * (2 ^ (n - fxC z) * 2 ^ (n - fxC y)) = (2 ^ (n - fxC z) * 2 ^ (n - fxC y)) * ind (fitB x a) := fun a => Nat.mul_comm _ _
    simp only [e3, sm_mul]
    rw [cnt_n ex, wt, ← Nat.pow_add, ← Nat.pow_add]
    congr 1
    simp only [List.flatten_cons, List.flatten_nil, List.append_nil, fx_app]
    omega
theorem ind_sum {α : Type} (p : α → Bool) : ∀ F : List α, (F.map fun f => ind (p f)).sum = (F.filter p).length
  | [] => rfl
  | f :: r => by
    rw [List.map_cons, List.sum_cons, ind_sum p r, List.filter_cons]
    cases p f <;> simp [ind]
    omega
theorem any_sum {α : Type} {p : α → Bool} {F : List α} (h : (F.filter p).length ≤ 1) : ind (F.any p) = (F.map fun f => ind (p f)).sum := by
  rw [ind_sum]
  cases e : F.any p with
  | true =>
    obtain ⟨f, hf, hp⟩ := List.any_eq_true.mp e
    have : 0 < (F.filter p).length := List.length_pos_of_mem (List.mem_filter.mpr ⟨hf, hp⟩)
    show 1 = _
    omega
  | false =>
    have : F.filter p = [] := List.filter_eq_nil_iff.mpr fun f hf hp => by
      have := List.any_eq_false.mp e f hf
      exact this hp
    rw [this]; rfl
theorem sm_sum {α : Type} (g : α → Nat → Nat) (m : Nat) : ∀ F : List α, sm m (fun i => (F.map fun f => g f i).sum) = (F.map fun f => sm m (g f)).sum
  | [] => by show sm m (fun _ => 0) = 0; rw [sm_const]; omega
  | f :: r => by
    simp only [List.map_cons, List.sum_cons]
    rw [sm_add, sm_sum g m r]
def wts (n : Nat) (F : List FM) : Nat := (F.map fun f => wt n f.pl).sum
theorem pl_len {f : FM} {n : Nat} (h : ∀ z ∈ f.ps, z.length = n) : ∀ x ∈ f.pl, x.length = n := fun x hx => by
  unfold FM.pl at hx
  obtain ⟨z, hz, rfl⟩ := List.mem_map.mp hx
  rw [Array.length_toList]; exact h z hz
theorem total {n : Nat} {F : List FM} (hF : FormsOk n F) (hp : F.Pairwise (fun g f => clashB f.pl g.pl = false)) :
    sm (2 ^ n) (fun a => sm (2 ^ n) fun b => sm (2 ^ n) fun c => ind (F.any fun f => mayB f.pl [a, b, c])) = wts n F := by
  have e : ∀ a b c, ind (F.any fun f => mayB f.pl [a, b, c]) = (F.map fun f => ind (mayB f.pl [a, b, c])).sum := fun a b c =>
    any_sum (apart_one (cs := [a, b, c]) hp fun f hf => ⟨(hF.2.2 f hf).2.1, (hF.2.2 f hf).2.2⟩)
  simp only [e]
  simp only [sm_sum (fun (f : FM) i => ind (mayB f.pl [_, _, i]))]
  simp only [sm_sum (fun (f : FM) j => sm (2 ^ n) fun c => ind (mayB f.pl [_, j, c]))]
  rw [sm_sum (fun (f : FM) k => sm (2 ^ n) fun b => sm (2 ^ n) fun c => ind (mayB f.pl [k, b, c]))]
  unfold wts
  congr 1
  refine List.map_congr_left fun f hf => ?_
  obtain ⟨h1, h3, hz⟩ := hF.2.2 f hf
  refine form3 (by unfold FM.pl; rw [List.length_map]; exact h1) (by unfold FM.pl; rw [List.length_map]; exact h3) (pl_len hz)
def dl (F : List FM) (n : Nat) (cs : List Nat) : Nat := (decX F n (natsV cs) 3 []).2.length
def df (F : List FM) (n : Nat) (cs : List Nat) : Option FM := ((decX F n (natsV cs) 3 []).1).getD none
theorem dec_of {F : List FM} {n : Nat} {cs : List Nat} (c3 : cs.length = 3) (hcs : ∀ c ∈ cs, c < 2 ^ n) (hF : FormsOk n F) :
    decX F n (natsV cs) 3 [] = (some (df F n cs), cs.take (dl F n cs)) ∧ dl F n cs ≤ 3 ∧ (df F n cs).isSome = F.any (fun f => mayB f.pl cs) := by
  obtain ⟨o, j, hdec, _, j3, hsome, hnone⟩ := decX_words (F := F) hcs 3 0 (by omega)
  rw [List.take_zero] at hdec
  have e1 : df F n cs = o := by unfold df; rw [hdec]; rfl
  have e2 : dl F n cs = j := by unfold dl; rw [hdec]; show (cs.take j).length = j; rw [List.length_take]; omega
  rw [e1, e2]
  refine ⟨hdec, by omega, ?_⟩
  cases o with
  | none =>
    symm
    rw [Option.isSome_none, List.any_eq_false]
    intro f hf hm
    obtain ⟨h1, h3, _⟩ := hF.2.2 f hf
    have := hnone rfl f hf hm (by omega)
    omega
  | some f =>
    symm
    rw [Option.isSome_some, List.any_eq_true]
    obtain ⟨h1, h2, h3⟩ := hsome f rfl
    refine ⟨f, h1, ?_⟩
    unfold mayB at h3 ⊢
    rw [zip_take _ _ _ (by unfold FM.pl; rw [List.length_map]; omega)] at h3
    exact h3
theorem dec_agree {F : List FM} {n : Nat} {cs ds : List Nat} (c3 : cs.length = 3) (hcs : ∀ c ∈ cs, c < 2 ^ n) (hF : FormsOk n F) (h : ∀ i, i < dl F n cs → ds[i]? = cs[i]?) : df F n ds = df F n cs := by
  obtain ⟨hd, hl, _⟩ := dec_of c3 hcs hF
  have := decX_agree (ys := natsV ds) 3 [] _ hd fun i _ hi => by
    rw [List.length_take] at hi
    unfold natsV
    rw [List.getElem?_map, List.getElem?_map, h i (by omega)]
  unfold df
  rw [this, hd]
/-- what the law counts -/
def cn2 (F : List FM) (n a b : Nat) : Nat := if dl F n [a, b, 0] = 2 then (if (df F n [a, b, 0]).isSome = true then 2 ^ n else 0) else sm (2 ^ n) fun c => ind (df F n [a, b, c]).isSome
def cn1 (F : List FM) (n a : Nat) : Nat := if dl F n [a, 0, 0] = 1 then (if (df F n [a, 0, 0]).isSome = true then 2 ^ n * 2 ^ n else 0) else sm (2 ^ n) (cn2 F n a)
theorem words3 {n a b c : Nat} (ha : a < 2 ^ n) (hb : b < 2 ^ n) (hc : c < 2 ^ n) : ∀ x ∈ [a, b, c], x < 2 ^ n := fun x hx => by
  simp at hx
  rcases hx with rfl | rfl | rfl <;> assumption
theorem mul_ind (m : Nat) (b : Bool) : m * ind b = if b = true then m else 0 := by cases b <;> simp [ind]
theorem cn2_eq {F : List FM} {n a b : Nat} (hF : FormsOk n F) (ha : a < 2 ^ n) (hb : b < 2 ^ n) : cn2 F n a b = sm (2 ^ n) fun c => ind (F.any fun f => mayB f.pl [a, b, c]) := by
  have h0 : 0 < 2 ^ n := Nat.two_pow_pos n
  have hs : ∀ c, c < 2 ^ n → ind (df F n [a, b, c]).isSome = ind (F.any fun f => mayB f.pl [a, b, c]) := fun c hc => by
    rw [(dec_of rfl (words3 ha hb hc) hF).2.2]
  unfold cn2
  split
  · rename_i h2
    have hag : ∀ c, c < 2 ^ n → ind (F.any fun f => mayB f.pl [a, b, c]) = ind (df F n [a, b, 0]).isSome := fun c hc => by
      rw [← hs c hc, dec_agree (cs := [a, b, 0]) (ds := [a, b, c]) rfl (words3 ha hb h0) hF fun i hi => by
        rw [h2] at hi
        have : i = 0 ∨ i = 1 := by omega
        rcases this with rfl | rfl <;> rfl]
    rw [sm_congr _ hag, sm_const, mul_ind]
  · exact sm_congr _ hs
theorem cn1_eq {F : List FM} {n a : Nat} (hF : FormsOk n F) (ha : a < 2 ^ n) : cn1 F n a = sm (2 ^ n) fun b => sm (2 ^ n) fun c => ind (F.any fun f => mayB f.pl [a, b, c]) := by
  have h0 : 0 < 2 ^ n := Nat.two_pow_pos n
  unfold cn1
  split
  · rename_i h1
    have hag : ∀ b, b < 2 ^ n → (sm (2 ^ n) fun c => ind (F.any fun f => mayB f.pl [a, b, c])) = 2 ^ n * ind (df F n [a, 0, 0]).isSome := fun b hb => by
      rw [← sm_const]
      refine sm_congr _ fun c hc => ?_
      rw [← (dec_of rfl (words3 ha hb hc) hF).2.2, dec_agree (cs := [a, 0, 0]) (ds := [a, b, c]) rfl (words3 ha h0 h0) hF fun i hi => by
        rw [h1] at hi
        have : i = 0 := by omega
        subst this; rfl]
    rw [sm_congr _ hag, sm_const, ← Nat.mul_assoc, mul_ind]
  · exact sm_congr _ fun b hb => cn2_eq hF ha hb
theorem counted {F : List FM} {n : Nat} (hF : FormsOk n F) (hp : F.Pairwise (fun g f => clashB f.pl g.pl = false)) : sm (2 ^ n) (cn1 F n) = wts n F := by
  rw [← total hF hp]
  exact sm_congr _ fun a ha => cn1_eq hF ha
end My

/-! PA -/
namespace My
open PySem L2
local macro_rules | `(tactic| walk_at "side") => `(tactic| first | with_reducible rfl | assumption | rfl | decide | omega | exact cpow1 (by omega) (by omega) | exact cdiv (by omega) (by omega) | exact two_pos _ | exact SqL.of (by assumption) | exact SqT.of (by assumption) | exact TyX.base (TyOf.int _) | exact TyX.base (TyOf.bl _) | exact TyX.base TyOf.non | exact scal_opt _ _ | exact k_ii | exact k_bi | exact k_ni | exact k_ib | exact k_bb | exact TyX.base (TyOf.lst (by assumption)) | exact k_ll | exact k_lt)
local macro_rules | `(tactic| walk_at "p") => `(tactic| repeat (first | refine And.intro (by walk_at "side") ?_ | apply Exists.intro | refine iteN (by assumption) ?_ | refine iteP (by assumption) ?_ | refine iteN (by decide) ?_ | refine iteP (by decide) ?_))

theorem fx_count : ∀ p : List Nat, p.count 48 + p.count 49 = fxC p
  | [] => rfl
  | s :: r => by
    have := fx_count r
    unfold fxC at this ⊢
    rw [List.count_cons, List.count_cons, List.countP_cons]
    by_cases h0 : s = 48
    · subst h0; simp [is01]; omega
    by_cases h1 : s = 49
    · subst h1; simp [is01]; omega
    simp [is01, h0, h1]; omega
section
variable {P : Program} {w : World} {K : PySem.W.Frag} {mg : Str → Option Value} {base : Heap}
def sp_fixed (_ : Txt K mg) : Sp := fun vs H Q _ => ∃ (a : Addr) (ps : List Str), vs = [.ref a] ∧ H a = some (.tup (ps.map V.str)) ∧ lens ps ≤ 1000 ∧ Q (.int (fxC (pls ps).flatten : Nat)) H
theorem sp_fixed_len {T : Txt K mg} {vs H Q E} (h : sp_fixed T vs H Q E) : vs.length = 1 := by obtain ⟨_, _, rfl, _⟩ := h; rfl
theorem ok_fixed (T : Txt K mg) : FnOk P w K mg base CX0 1 T.f_fixed T.fd_fixed ["patterns"] (sp_fixed T) := by
  skip
  refine T.F_fixed.ok sc_fixed (fun vs H Q E h => sp_fixed_len h) (fun cdv A outer s H vs Q E hr h => ?_)
  obtain ⟨a, ps, rfl, ha, hl, k⟩ := h
  refine ⟨_, (pss_cons (ps_set (i := 1) sc_fixed.nd rfl (Or.inl rfl) (pe_join pe_str (pv 0)))
       (pss_one (ps_ret (pe_op op_add (pe_m1 PySem.F.slot_str_count PySem.F.type_str_count mt_count (pv 1) pe_str) (pe_m1 PySem.F.slot_str_count PySem.F.type_str_count mt_count (pv 1) pe_str))))), ?_⟩
  have ha' : SqL K H a (ps.map V.str) ∨ SqT K H a (ps.map V.str) := .inr (SqT.of ha)
  have e0 : ("" : Str).length = 0 := by decide
  refine ⟨⟨_, rfl⟩, _, rfl, _, a, ps, rfl, rfl, ha', by rw [e0]; unfold lens at hl; omega, ?_⟩
  have ez := join_l ps
  refine ⟨_, rfl, ⟨_, rfl⟩, _, _, rfl, rfl, _, rfl, ⟨_, rfl⟩, _, _, rfl, rfl, _, _, rfl, rfl, ?_⟩
  rw [show (Txt.count (Txt.join "" ps) "0") = _ from count_l _ 48, show (Txt.count (Txt.join "" ps) "1") = _ from count_l _ 49, ez]
  show Q (.int (((pls ps).flatten.count 48 : Nat) + ((pls ps).flatten.count 49 : Nat))) H
  rw [← Int.natCast_add, fx_count]
  exact k
theorem mul3 {n : Nat} (h : n ≤ 8) : CMul 3 (n : Int) := .inr ⟨by omega, by omega⟩
theorem lens24 {n : Nat} {ps : List Str} (l3 : ps.length ≤ 3) (n8 : n ≤ 8) (hz : ∀ z ∈ ps, z.length = n) : lens ps ≤ 1000 := by
  rw [lens_le hz]
  have : ps.length * n ≤ 3 * 8 := Nat.mul_le_mul l3 n8
  omega
theorem fx_le {n : Nat} {ps : List Str} (l3 : ps.length ≤ 3) (hz : ∀ z ∈ ps, z.length = n) : fxC (pls ps).flatten + frC (pls ps).flatten = ps.length * n ∧ fxC (pls ps).flatten ≤ 3 * n := by
  have h1 := fx_fr (pls ps).flatten
  have h2 : (pls ps).flatten.length = ps.length * n := by
    clear h1
    induction ps with
    | nil => simp [pls]
    | cons z r ih =>
      have ih' := ih (by simp at l3; omega) fun y hy => hz y (List.mem_cons_of_mem _ hy)
      have e := hz z (by simp)
      have e2 : z.length = z.cps.toList.length := by rw [Array.length_toList]; rfl
      unfold pls at ih' ⊢
      rw [List.map_cons, List.flatten_cons, List.length_append, ih', ← e2, e, List.length_cons, Nat.succ_mul]; omega
  have : ps.length * n ≤ 3 * n := Nat.mul_le_mul_right _ l3
  omega
theorem shl_wt {n : Nat} {ps : List Str} (h : fxC (pls ps).flatten ≤ 3 * n) : (1 : Int) * 2 ^ ((3 * (n : Int) - (fxC (pls ps).flatten : Nat)).toNat) = (wt n (pls ps) : Nat) := by
  rw [Int.one_mul, show (3 * (n : Int) - (fxC (pls ps).flatten : Nat)).toNat = 3 * n - fxC (pls ps).flatten by omega]
  unfold wt
  exact (Int.natCast_pow 2 _).symm
theorem sumNats (l : List Nat) : (l.map fun (x : Nat) => (x : Int)).sum = (l.sum : Nat) := by
  induction l with
  | nil => rfl
  | cons x r ih => rw [List.map_cons, List.sum_cons, ih, List.sum_cons]; exact (Int.natCast_add _ _).symm
def sp_begins (T : Txt K mg) : Sp := fun vs H Q _ => ∃ (p : Addr) (F : List FM) (n r : Nat), vs = [.ref p] ∧ BookAt T.C_Book T.C_Form H p n r F ∧ FormsOk n F ∧ ∀ H', Same H H' → Q (.int (wts n F : Nat)) H'
theorem sp_begins_len {T : Txt K mg} {vs H Q E} (h : sp_begins T vs H Q E) : vs.length = 1 := by obtain ⟨_, _, _, _, rfl, _⟩ := h; rfl
theorem ok_begins (T : Txt K mg) : FnOk P w K mg base CX0 2 T.f_begins T.fd_begins ["book"] (sp_begins T) := by
  have G_fixed := ok_fixed (P := P) (w := w) (base := base) T
  refine T.F_begins.ok sc_begins (fun vs H Q E h => sp_begins_len h) (fun cdv A outer s H vs Q E hr h => ?_)
  obtain ⟨p, F, n, r, rfl, hB, ⟨n8, f32, hF⟩, k⟩ := h
  refine ⟨_, (pss_one (ps_ret (pe_callB (cr_sum rfl) (by rfl) T.n_sum (by decide +kernel) (pa_cons (pe_lc (own := [("form", 1)]) rfl sc_begins.nd (pi_tup (pe_fldA (pv 0))) (blkOk_by (N := ["book", "form"]) (sc := defScope s_begins) (by decide +kernel)) (fun _ _ _ _ _ => by (apply pg_tr; exact pg_name (i := 1) sc_begins.nd rfl (Or.inl rfl); (try dsimp only [Cx.blk]) <;> exact rfl)) (fun _ _ _ _ _ => by (apply pts_tr; exact pts_nil; (try dsimp only [Cx.blk]) <;> exact rfl)) (fun _ _ _ _ _ => by (apply pe_tr; exact (pe_op op_shl pe_int (pe_op op_sub (pe_op op_mul (pe_glob (v := .int 3) rfl T.c_MOST_CELLS ⟨_, rfl⟩) (pe_fldA (pv 0))) (pe_call G_fixed hr rfl T.g_fixed T.F_fixed.kp T.b_fixed .nil pass0 (pa_cons (pe_fldA (pv 1)) pa_nil)))); (try dsimp only [Cx.blk]) <;> exact rfl))) pa_nil)))), ?_⟩
  have sz : sizeLine = 16777216 := sizeLine_eq
  obtain ⟨bdx, ft, nd, tx, hO, us, hus, hR⟩ := hB
  have hul := hR.1
  refine ⟨_, rfl, p, T.C_Book, bdx, _, _, rfl, hO, T.cl_Book, T.nA_Book_forms, look_book_forms .., ft, rfl, ⟨_, SqT.of hus⟩, fun D hD => ?_⟩
  refine lc_it (walk_tup (xs := us)) (fun i H3 => Same H H3 ∧ H3 D = some (.lst ((((F.take i).map fun f => wt n f.pl).map fun (x : Nat) => (x : Int)).map V.int))) ⟨same_new hD, upd_same⟩ (fun i H3 _ ⟨s3, _⟩ => SqT.of (s3 _ _ hus)) ?_ ?_
  · rintro i x H3 H4 hi ⟨s3, h3⟩ ⟨rfl, hx⟩
    obtain ⟨u, f, hf, hu, hr⟩ := hR.at (i := i) (by omega)
    rw [hu] at hx
    cases hx
    have hr4 := hr.news s3
    obtain ⟨fdx, fpt, fln, flt, ffx, hP⟩ := hr4
    obtain ⟨f1, f3, fz⟩ := hF f (List.mem_of_getElem? hf)
    have hfx := fx_le f3 fz
    refine ⟨rfl, _, rfl, p, T.C_Book, bdx, _, _, rfl, s3 _ _ hO, T.cl_Book, T.nA_Book_word, look_book_word .., _, _, rfl, rfl, mul3 n8, _, rfl, u, T.C_Form, fdx, _, _, rfl, hP.o, T.cl_Form, T.nA_Form_patterns, look_form_patterns .., fpt, f.ps, rfl, hP.pt, lens24 f3 n8 fz, _, _, rfl, rfl, _, _, rfl, rfl, cpow1 (by omega) (by omega), ?_⟩
    dsimp only
    rw [shl_wt hfx.2]
    refine ⟨_, h3, ?_, fun b o e => ?_, ?_⟩
    · rw [List.length_map, List.length_map, List.length_map, List.length_take]; omega
    · have bD : b ≠ D := fun z => by rw [z, hD] at e; cases e
      rw [upd_ne bD]; exact s3 _ _ e
    · rw [upd_same, List.take_succ, hf, List.map_append, List.map_append, List.map_append]; rfl
  · rintro H3 ⟨s3, h3⟩
    rw [List.take_of_length_le (by omega)] at h3
    refine ⟨D, _, rfl, SqL.of h3, ?_⟩
    rw [sumNats]
    exact k _ s3
def sp_is_full (T : Txt K mg) : Sp := fun vs H Q _ => ∃ (p : Addr) (F : List FM) (n r : Nat), vs = [.ref p] ∧ BookAt T.C_Book T.C_Form H p n r F ∧ FormsOk n F ∧ ∀ H', Same H H' → Q (.bl (decide (wts n F = 2 ^ (3 * n)))) H'
theorem sp_is_full_len {T : Txt K mg} {vs H Q E} (h : sp_is_full T vs H Q E) : vs.length = 1 := by obtain ⟨_, _, _, _, rfl, _⟩ := h; rfl
theorem shl_all (n : Nat) : (1 : Int) * 2 ^ ((3 * (n : Int)).toNat) = ((2 ^ (3 * n) : Nat) : Int) := by
  rw [Int.one_mul, show (3 * (n : Int)).toNat = 3 * n by omega]
  exact (Int.natCast_pow 2 _).symm
theorem intEq (a b : Nat) : decide (V.int (a : Nat) = V.int (b : Nat)) = decide (a = b) := by
  by_cases h : a = b
  · rw [h]; simp
  · rw [decide_eq_false h, decide_eq_false]
    intro z
    exact h (Int.ofNat.inj (V.int.inj z))
theorem ok_is_full (T : Txt K mg) : FnOk P w K mg base CX0 3 T.f_is_full T.fd_is_full ["book"] (sp_is_full T) := by
  have G_begins := ok_begins (P := P) (w := w) (base := base) T
  refine T.F_is_full.ok sc_is_full (fun vs H Q E h => sp_is_full_len h) (fun cdv A outer s H vs Q E hr h => ?_)
  obtain ⟨p, F, n, r, rfl, hB, hF, k⟩ := h
  have n8 := hF.1
  refine ⟨_, (pss_one (ps_ret (pe_cmpR op_eq (pe_call G_begins hr rfl T.g_begins T.F_begins.kp T.b_begins .nil pass0 (pa_cons (pv 0) pa_nil)) (pe_op op_shl pe_int (pe_op op_mul (pe_glob (v := .int 3) rfl T.c_MOST_CELLS ⟨_, rfl⟩) (pe_fldA (pv 0)))) (nomark _)))), ?_⟩
  refine ⟨_, rfl, p, F, n, r, rfl, hB, hF, fun H1 s1 => ?_⟩
  obtain ⟨bdx, ft, nd, tx, hO, hu⟩ := hB
  refine ⟨_, rfl, p, T.C_Book, bdx, _, _, rfl, s1 _ _ hO, T.cl_Book, T.nA_Book_word, look_book_word .., _, _, rfl, rfl, mul3 n8, _, _, rfl, rfl, cpow1 (by omega) (by omega), ?_⟩
  have := k H1 s1
  rw [← intEq, ← shl_all] at this
  exact ⟨rfl, this⟩
def sp_law_free (_ : Txt K mg) : Sp := fun vs H Q _ => ∃ (a : Addr) (ps : List Str), vs = [.ref a] ∧ H a = some (.lst (ps.map V.str)) ∧ Q (.int (frC (pls ps).flatten : Nat)) H
theorem sp_law_free_len {T : Txt K mg} {vs H Q E} (h : sp_law_free T vs H Q E) : vs.length = 1 := by obtain ⟨_, _, rfl, _⟩ := h; rfl
theorem fr_snoc (x : List Nat) (c : Nat) : frC (x ++ [c]) = frC x + if is01 c = true then 0 else 1 := by
  unfold frC
  rw [List.countP_append]
  cases e : is01 c <;> simp [e]
theorem ok_law_free (T : Txt K mg) : FnOk P w K mg base CX0 1 T.f_law_free T.fd_law_free ["_law_patterns_here"] (sp_law_free T) := by
  skip
  refine T.F_law_free.ok sc_law_free (fun vs H Q E h => sp_law_free_len h) (fun cdv A outer s H vs Q E hr h => ?_)
  obtain ⟨a, ps, rfl, ha, k⟩ := h
  refine ⟨_, (pss_cons (ps_set (i := 1) sc_law_free.nd rfl (Or.inl rfl) pe_int)
       (pss_cons (ps_for PassesOwn.never rfl (pi_list (pv 0)) (pg_name (i := 2) sc_law_free.nd rfl (Or.inl rfl))
        (pss_one (ps_for PassesOwn.never rfl (pi_str (pv 2)) (pg_name (i := 3) sc_law_free.nd rfl (Or.inl rfl))
        (pss_one (ps_if (PW.pt (pw_and (pt_cmpR op_ne (pv 3) pe_str (nomark _)) (pw_and1 (pt_cmpR op_ne (pv 3) pe_str (nomark _)))))
        (pss_one (ps_aug (i := 1) sc_law_free.nd rfl (Or.inl rfl) pe_int ip_add))
        pss_nil)))))
       (pss_one (ps_ret (pv 1))))), ?_⟩
  refine ⟨_, rfl, a, rfl, ⟨_, SqL.of ha⟩, ?_⟩
  refine for_it (walk_list (xs := ps.map V.str)) (fun i σ H1 => H1 = H ∧ ∃ v2 v3 : Option V, σ = [some (.ref a), some (.int (frC ((pls ps).take i).flatten : Nat)), v2, v3]) ⟨rfl, none, none, rfl⟩ (fun i σ H1 _ ⟨e, _⟩ => by rw [e]; exact SqL.of ha) ?_ ?_
  · rintro i x σ H1 H2 hi ⟨rfl, v2, v3, rfl⟩ ⟨rfl, hx⟩
    rw [List.getElem?_map] at hx
    obtain ⟨z, hz, rfl⟩ : ∃ z, ps[i]? = some z ∧ x = V.str z := by
      cases h : ps[i]? with
      | none => rw [h] at hx; cases hx
      | some z => rw [h] at hx; exact ⟨z, rfl, (Option.some.inj hx).symm⟩
    have hpi : (pls ps)[i]? = some z.cps.toList := by unfold pls; rw [List.getElem?_map, hz]; rfl
    refine ⟨_, rfl, z, rfl, ?_⟩
    refine for_it walk_str (fun j σ H3 => H3 = H2 ∧ ∃ v3 : Option V, σ = [some (.ref a), some (.int (frC (((pls ps).take i).flatten ++ z.cps.toList.take j) : Nat)), some (.str z), v3]) ⟨rfl, v3, by simp⟩ (fun _ _ _ _ _ => trivial) ?_ ?_
    · rintro j x σ H3 H4 hj ⟨rfl, w3, rfl⟩ ⟨rfl, c, hc, rfl⟩
      rw [← Array.getElem?_toList] at hc
      have et : z.cps.toList.take (j + 1) = z.cps.toList.take j ++ [c] := by rw [List.take_succ, hc]; rfl
      refine ⟨_, rfl, rfl, _, rfl, ?_⟩
      rw [show decide (V.str ⟨#[c]⟩ = V.str "0") = decide (c = 48) from sgV (a := c) (b := 48)]
      refine iteB (fun e => ?_) fun e => ?_
      · have hc0 : ¬ c = 48 := by simpa using e
        refine ⟨_, rfl, rfl, _, rfl, ?_⟩
        rw [show decide (V.str ⟨#[c]⟩ = V.str "1") = decide (c = 49) from sgV (a := c) (b := 49)]
        refine iteB (fun e2 => ?_) fun e2 => ?_
        · have hc1 : ¬ c = 49 := by simpa using e2
          have h01 : is01 c = false := by unfold is01; rw [beq_false_of_ne hc0, beq_false_of_ne hc1]; rfl
          refine ⟨_, rfl, _, _, rfl, rfl, rfl, some (.str (sg c)), ?_⟩
          rw [et, ← List.append_assoc, fr_snoc, h01]; rfl
        · have hc1 : c = 49 := by simpa using e2
          refine ⟨rfl, some (.str (sg c)), ?_⟩
          rw [et, ← List.append_assoc, fr_snoc, hc1]; rfl
      · have hc0 : c = 48 := by simpa using e
        refine iteN (by decide) ?_
        refine ⟨rfl, some (.str (sg c)), ?_⟩
        rw [et, ← List.append_assoc, fr_snoc, hc0]; rfl
    · rintro σ H3 ⟨rfl, w3, rfl⟩
      refine ⟨rfl, some (.str z), w3, ?_⟩
      rw [List.take_of_length_le (l := z.cps.toList) (by rw [Array.length_toList]; exact Nat.le_refl _), List.take_succ, hpi, List.flatten_append]
      rw [show ((some z.cps.toList).toList.flatten : List Nat) = z.cps.toList from List.append_nil _]
  · rintro σ H1 ⟨rfl, v2, v3, rfl⟩
    refine ⟨_, rfl, ?_⟩
    rw [List.take_of_length_le (by unfold pls; rw [List.length_map, List.length_map]; exact Nat.le_refl _)]
    exact k
end
end My

/-! PB -/
namespace My
open PySem L2
local macro_rules | `(tactic| walk_at "side") => `(tactic| first | with_reducible rfl | assumption | rfl | decide | omega | exact cpow1 (by omega) (by omega) | exact cdiv (by omega) (by omega) | exact two_pos _ | exact SqL.of (by assumption) | exact SqT.of (by assumption) | exact TyX.base (TyOf.int _) | exact TyX.base (TyOf.bl _) | exact TyX.base TyOf.non | exact scal_opt _ _ | exact k_ii | exact k_bi | exact k_ni | exact k_ib | exact k_bb | exact TyX.base (TyOf.lst (by assumption)) | exact k_ll | exact k_lt)
local macro_rules | `(tactic| walk_at "p") => `(tactic| repeat (first | refine And.intro (by walk_at "side") ?_ | apply Exists.intro | refine iteN (by assumption) ?_ | refine iteP (by assumption) ?_ | refine iteN (by decide) ?_ | refine iteP (by decide) ?_))

theorem eqvI (i j : Int) : PyData.eqv (.int i) (.int j) = decide (i = j) := by
  have : (i == j) = decide (i = j) := by cases h : decide (i = j) <;> simp_all
  simp [PyData.eqv, this]
theorem eqI2 {K : PySem.W.Frag} {H : Hp} {i j : Int} {Q : VK} (k : Q (.bl (decide (i = j))) H) : rEqD K (.int i) (.int j) H Q := ⟨_, _, .int i, .int j, shI i, shI j, by rw [show PyData.eqv (.int i) (.int j) = decide (i = j) from eqvI i j]; exact k⟩
theorem neI2 {K : PySem.W.Frag} {H : Hp} {i j : Int} {Q : VK} (k : Q (.bl (!decide (i = j))) H) : rNeD K (.int i) (.int j) H Q := ⟨_, _, .int i, .int j, shI i, shI j, by rw [show PyData.eqv (.int i) (.int j) = decide (i = j) from eqvI i j]; exact k⟩
theorem DueAt.l3 {H : Hp} {d : Addr} {o : Option FM} {L : List Nat} (h : DueAt H d o L) : ∃ x0 nl, H d = some (.lst [x0, .ref nl, .int (L.length : Nat)]) ∧ decide (x0 = V.non) = !o.isSome := by
  cases o with
  | none => obtain ⟨nl, h⟩ := h; exact ⟨_, nl, h, rfl⟩
  | some f => obtain ⟨r, nl, h, _⟩ := h; exact ⟨_, nl, h, decide_eq_false fun z => by cases z⟩
theorem shl_n (n : Nat) : (1 : Int) * 2 ^ (((n : Nat) : Int)).toNat = ((2 ^ n : Nat) : Int) := by
  rw [Int.one_mul, Int.toNat_natCast]
  exact (Int.natCast_pow 2 _).symm
section
variable {P : Program} {w : World} {K : PySem.W.Frag} {mg : Str → Option Value} {base : Heap}
def sp_law_counted (_ : Txt K mg) : Sp := fun vs H Q _ => ∃ (a : Addr) (F : List FM) (n : Nat), vs = [.ref a, .int (n : Nat)] ∧ RowsAt H a F ∧ FormsOk n F ∧ ∀ H', Same H H' → Q (.int (sm (2 ^ n) (cn1 F n) : Nat)) H'
theorem sp_law_counted_len {T : Txt K mg} {vs H Q E} (h : sp_law_counted T vs H Q E) : vs.length = 2 := by obtain ⟨_, _, _, rfl, _⟩ := h; rfl
theorem ok_law_counted (T : Txt K mg) : FnOk P w K mg base CX0 4 T.f_law_counted T.fd_law_counted ["_law_rows", "_law_word"] (sp_law_counted T) := by
  have G_law_decode := ok_law_decode (P := P) (w := w) (base := base) T
  refine T.F_law_counted.ok sc_law_counted (fun vs H Q E h => sp_law_counted_len h) (fun cdv A outer s H vs Q E hr h => ?_)
  obtain ⟨a, F, n, rfl, hR, hF, k⟩ := h
  refine ⟨_, (pss_cons (ps_set (i := 2) sc_law_counted.nd rfl (Or.inl rfl) (pe_op op_shl pe_int (pv 1)))
       (pss_cons (ps_set (i := 3) sc_law_counted.nd rfl (Or.inl rfl) pe_int)
       (pss_cons (ps_for PassesOwn.never rfl (pi_range1 (by rfl) T.n_range (pa_cons (pv 2) pa_nil)) (pg_name (i := 4) sc_law_counted.nd rfl (Or.inl rfl))
        (pss_cons (ps_set (i := 5) sc_law_counted.nd rfl (Or.inl rfl) (pe_call G_law_decode hr rfl T.g_law_decode T.F_law_decode.kp T.b_law_decode .nil pass0 (pa_cons (pv 0) (pa_cons (pe_lst (pa_cons (pv 4) (pa_cons pe_int (pa_cons pe_int pa_nil)))) pa_nil))))
       (pss_one (ps_if (pt_cmpR (op_eqD hr.units) (pe_ix ix_list (pv 5) pe_int (fun _ _ => rfl)) pe_int (nomark _))
        (pss_one (ps_if (pt_cmpR op_notN (pe_ix ix_list (pv 5) pe_int (fun _ _ => rfl)) pe_non (nomark _))
        (pss_one (ps_aug (i := 3) sc_law_counted.nd rfl (Or.inl rfl) (pe_op op_mul (pv 2) (pv 2)) ip_add))
        pss_nil))
        (pss_one (ps_for PassesOwn.never rfl (pi_range1 (by rfl) T.n_range (pa_cons (pv 2) pa_nil)) (pg_name (i := 6) sc_law_counted.nd rfl (Or.inl rfl))
        (pss_cons (ps_set (i := 5) sc_law_counted.nd rfl (Or.inl rfl) (pe_call G_law_decode hr rfl T.g_law_decode T.F_law_decode.kp T.b_law_decode .nil pass0 (pa_cons (pv 0) (pa_cons (pe_lst (pa_cons (pv 4) (pa_cons (pv 6) (pa_cons pe_int pa_nil)))) pa_nil))))
       (pss_one (ps_if (pt_cmpR (op_eqD hr.units) (pe_ix ix_list (pv 5) pe_int (fun _ _ => rfl)) pe_int (nomark _))
        (pss_one (ps_if (pt_cmpR op_notN (pe_ix ix_list (pv 5) pe_int (fun _ _ => rfl)) pe_non (nomark _))
        (pss_one (ps_aug (i := 3) sc_law_counted.nd rfl (Or.inl rfl) (pv 2) ip_add))
        pss_nil))
        (pss_one (ps_for PassesOwn.never rfl (pi_range1 (by rfl) T.n_range (pa_cons (pv 2) pa_nil)) (pg_name (i := 7) sc_law_counted.nd rfl (Or.inl rfl))
        (pss_one (ps_if (pt_cmpR op_notN (pe_ix ix_list (pe_call G_law_decode hr rfl T.g_law_decode T.F_law_decode.kp T.b_law_decode .nil pass0 (pa_cons (pv 0) (pa_cons (pe_lst (pa_cons (pv 4) (pa_cons (pv 6) (pa_cons (pv 7) pa_nil)))) pa_nil))) pe_int (fun _ _ => rfl)) pe_non (nomark _))
        (pss_one (ps_aug (i := 3) sc_law_counted.nd rfl (Or.inl rfl) pe_int ip_add))
        pss_nil)))))))))))))
       (pss_one (ps_ret (pv 3)))))), ?_⟩
  have sz : sizeLine = 16777216 := sizeLine_eq
  have n8 := hF.1
  have h0 : 0 < 2 ^ n := Nat.two_pow_pos n
  have h256 : 2 ^ n ≤ 2 ^ 8 := Nat.pow_le_pow_right (by decide) n8
  have hmul : CMul ((2 ^ n : Nat) : Int) ((2 ^ n : Nat) : Int) := .inr ⟨by omega, by omega⟩
  have el : ∀ x y z : Nat, ([.int (0 + (x : Int)), .int (y : Nat), .int (z : Nat)] : List V) = natsV [x, y, z] := fun x y z => by unfold natsV; simp
  refine ⟨_, rfl, _, _, rfl, rfl, cpow1 (by omega) (by omega), ?_⟩
  dsimp only
  rw [shl_n]
  refine ⟨_, rfl, _, rfl, by omega, by omega, ?_⟩
  refine for_range (lo := 0) (n := ((2 ^ n : Nat) : Int).toNat) (fun i σ H3 => Same H H3 ∧ ∃ v4 v5 v6 v7 : Option V, σ = [some (.ref a), some (.int (n : Nat)), some (.int (2 ^ n : Nat)), some (.int (sm i (cn1 F n) : Nat)), v4, v5, v6, v7]) ⟨Same.refl _, none, none, none, none, rfl⟩ ?_ ?_
  · rintro i σ H3 hi ⟨s3, v4, v5, v6, v7, rfl⟩
    rw [Int.toNat_natCast] at hi
    obtain ⟨hdec, hl3, his⟩ := dec_of (F := F) (n := n) (cs := [i, 0, 0]) rfl (words3 hi h0 h0) hF
    refine ⟨_, rfl, _, rfl, by show 3 ≤ _; omega, fun l l0 => ?_⟩
    have s4 := s3.trans (same_new (o := .lst (natsV [i, 0, 0])) l0)
    rw [show ([.int (0 + (i : Int)), .int 0, .int 0] : List V) = natsV [i, 0, 0] from el i 0 0]
    refine ⟨a, l, F, [i, 0, 0], n, _, _, rfl, hR.news s4, upd_same, rfl, words3 hi h0 h0, hF, hdec, fun H5 dd s5 hdue => ?_⟩
    have S5 := s4.trans s5
    obtain ⟨x0, nl, hdd, hx0⟩ := hdue.l3
    have hlen : ([i, 0, 0].take (dl F n [i, 0, 0])).length = dl F n [i, 0, 0] := by rw [List.length_take]; show min _ 3 = _; omega
    rw [hlen] at hdd
    refine ⟨_, rfl, dd, _, _, _, rfl, rfl, SqL.of hdd, rfl, ?_⟩
    dsimp only [tC]
    refine eqI2 ?_
    refine ⟨_, rfl, ?_⟩
    have ec : sm (i + 1) (cn1 F n) = sm i (cn1 F n) + cn1 F n i := rfl
    by_cases e : dl F n [i, 0, 0] = 1
    · refine iteP (decide_eq_true (by rw [e]; rfl)) ?_
      refine ⟨_, rfl, dd, _, _, _, rfl, rfl, SqL.of hdd, rfl, rfl, _, rfl, ?_⟩
      rw [hx0]
      have e1 : cn1 F n i = if (df F n [i, 0, 0]).isSome = true then 2 ^ n * 2 ^ n else 0 := by unfold cn1; rw [if_pos e]
      cases hs : (df F n [i, 0, 0]).isSome with
      | true =>
        rw [hs, if_pos rfl] at e1
        refine iteP (by decide) ?_
        refine ⟨_, rfl, _, rfl, _, rfl, _, _, rfl, rfl, hmul, _, _, rfl, rfl, S5, some (.int (0 + (i : Int))), some (.ref dd), v6, v7, ?_⟩
        rw [ec, e1, Int.natCast_add, Int.natCast_mul]
        rfl
      | false =>
        rw [hs, if_neg (by decide)] at e1
        refine iteN (by decide) ?_
        refine ⟨S5, some (.int (0 + (i : Int))), some (.ref dd), v6, v7, ?_⟩
        rw [ec, e1]
        rfl
    · refine iteN (by rw [decide_eq_false]; decide; intro z; exact e (Int.ofNat.inj z)) ?_
      have e1 : cn1 F n i = sm (2 ^ n) (cn2 F n i) := by unfold cn1; rw [if_neg e]
      refine ⟨_, rfl, _, rfl, by omega, by omega, ?_⟩
      refine for_range (lo := 0) (n := ((2 ^ n : Nat) : Int).toNat) (fun j σ H6 => Same H H6 ∧ ∃ v5 v6 v7 : Option V, σ = [some (.ref a), some (.int (n : Nat)), some (.int (2 ^ n : Nat)), some (.int (sm i (cn1 F n) + sm j (cn2 F n i) : Nat)), some (.int (0 + (i : Int))), v5, v6, v7]) ⟨S5, _, _, _, rfl⟩ ?_ ?_
      · rintro j σ H6 hj ⟨s6, v5, v6, v7, rfl⟩
        rw [Int.toNat_natCast] at hj
        obtain ⟨hdec, hl3, his⟩ := dec_of (F := F) (n := n) (cs := [i, j, 0]) rfl (words3 hi hj h0) hF
        refine ⟨_, rfl, _, rfl, _, rfl, by show 3 ≤ _; omega, fun l l0 => ?_⟩
        have s7 := s6.trans (same_new (o := .lst (natsV [i, j, 0])) l0)
        rw [show ([.int (0 + (i : Int)), .int (0 + (j : Int)), .int 0] : List V) = natsV [i, j, 0] by rw [← el i j 0, show (0 : Int) + (j : Int) = (j : Int) by omega]; rfl]
        refine ⟨a, l, F, [i, j, 0], n, _, _, rfl, hR.news s7, upd_same, rfl, words3 hi hj h0, hF, hdec, fun H8 dd s8 hdue => ?_⟩
        have S8 := s7.trans s8
        obtain ⟨x0, nl, hdd, hx0⟩ := hdue.l3
        have hlen : ([i, j, 0].take (dl F n [i, j, 0])).length = dl F n [i, j, 0] := by rw [List.length_take]; show min _ 3 = _; omega
        rw [hlen] at hdd
        refine ⟨_, rfl, dd, _, _, _, rfl, rfl, SqL.of hdd, rfl, ?_⟩
        dsimp only [tC]
        refine eqI2 ?_
        refine ⟨_, rfl, ?_⟩
        have ec2 : sm (j + 1) (cn2 F n i) = sm j (cn2 F n i) + cn2 F n i j := rfl
        by_cases e' : dl F n [i, j, 0] = 2
        · refine iteP (decide_eq_true (by rw [e']; rfl)) ?_
          refine ⟨_, rfl, dd, _, _, _, rfl, rfl, SqL.of hdd, rfl, rfl, _, rfl, ?_⟩
          rw [hx0]
          have e2 : cn2 F n i j = if (df F n [i, j, 0]).isSome = true then 2 ^ n else 0 := by unfold cn2; rw [if_pos e']
          cases hs : (df F n [i, j, 0]).isSome with
          | true =>
            rw [hs, if_pos rfl] at e2
            refine iteP (by decide) ?_
            refine ⟨_, rfl, _, rfl, _, _, rfl, rfl, S8, some (.ref dd), some (.int (0 + (j : Int))), v7, ?_⟩
            rw [ec2, e2, ← Nat.add_assoc, Int.natCast_add (_ + _)]
            rfl
          | false =>
            rw [hs, if_neg (by decide)] at e2
            refine iteN (by decide) ?_
            refine ⟨S8, some (.ref dd), some (.int (0 + (j : Int))), v7, ?_⟩
            rw [ec2, e2]
            rfl
        · refine iteN (by rw [decide_eq_false]; decide; intro z; exact e' (Int.ofNat.inj z)) ?_
          have e2 : cn2 F n i j = sm (2 ^ n) fun c => ind (df F n [i, j, c]).isSome := by unfold cn2; rw [if_neg e']
          refine ⟨_, rfl, _, rfl, by omega, by omega, ?_⟩
          refine for_range (lo := 0) (n := ((2 ^ n : Nat) : Int).toNat) (fun c σ H9 => Same H H9 ∧ ∃ v7 : Option V, σ = [some (.ref a), some (.int (n : Nat)), some (.int (2 ^ n : Nat)), some (.int ((sm i (cn1 F n) + sm j (cn2 F n i)) + sm c (fun c => ind (df F n [i, j, c]).isSome) : Nat)), some (.int (0 + (i : Int))), some (.ref dd), some (.int (0 + (j : Int))), v7]) ⟨S8, _, rfl⟩ ?_ ?_
          · rintro c σ H9 hc ⟨s9, v7, rfl⟩
            rw [Int.toNat_natCast] at hc
            obtain ⟨hdec, hl3, his⟩ := dec_of (F := F) (n := n) (cs := [i, j, c]) rfl (words3 hi hj hc) hF
            refine ⟨_, rfl, _, rfl, _, rfl, _, rfl, by show 3 ≤ _; omega, fun l l0 => ?_⟩
            have s10 := s9.trans (same_new (o := .lst (natsV [i, j, c])) l0)
            rw [show ([.int (0 + (i : Int)), .int (0 + (j : Int)), .int (0 + (c : Int))] : List V) = natsV [i, j, c] by rw [← el i j c, show (0 : Int) + (j : Int) = (j : Int) by omega, show (0 : Int) + (c : Int) = (c : Int) by omega]]
            refine ⟨a, l, F, [i, j, c], n, _, _, rfl, hR.news s10, upd_same, rfl, words3 hi hj hc, hF, hdec, fun H11 d2 s11 hdue => ?_⟩
            have S11 := s10.trans s11
            obtain ⟨x0, nl, hdd, hx0⟩ := hdue.l3
            refine ⟨d2, _, _, _, rfl, rfl, SqL.of hdd, rfl, rfl, _, rfl, ?_⟩
            rw [hx0]
            have ec3 : sm (c + 1) (fun c => ind (df F n [i, j, c]).isSome) = sm c (fun c => ind (df F n [i, j, c]).isSome) + ind (df F n [i, j, c]).isSome := rfl
            cases hs : (df F n [i, j, c]).isSome with
            | true =>
              refine iteP (by decide) ?_
              refine ⟨_, rfl, _, _, rfl, rfl, S11, some (.int (0 + (c : Int))), ?_⟩
              rw [ec3, hs, ← Nat.add_assoc, Int.natCast_add (_ + _)]
              rfl
            | false =>
              refine iteN (by decide) ?_
              refine ⟨S11, some (.int (0 + (c : Int))), ?_⟩
              rw [ec3, hs]
              rfl
          · rintro σ H9 ⟨s9, v7, rfl⟩
            refine ⟨s9, some (.ref dd), some (.int (0 + (j : Int))), v7, ?_⟩
            rw [ec2, e2, Int.toNat_natCast, ← Nat.add_assoc]
      · rintro σ H6 ⟨s6, v5, v6, v7, rfl⟩
        refine ⟨s6, some (.int (0 + (i : Int))), v5, v6, v7, ?_⟩
        rw [ec, e1, Int.toNat_natCast]
  · rintro σ H3 ⟨s3, v4, v5, v6, v7, rfl⟩
    refine ⟨_, rfl, ?_⟩
    rw [Int.toNat_natCast]
    exact k _ s3
end
end My

/-! N13 -/
/-! full books: splitting -/
namespace My
open PySem L2
theorem okP_comm (c d : Nat) : okP c d = okP d c := by unfold okP; rw [Bool.and_comm (c == 48), Bool.and_comm (c == 49), Bool.and_comm]
theorem clashP_comm : ∀ x y : List Nat, clashP x y = clashP y x
  | [], [] => rfl
  | [], _ :: _ => rfl
  | _ :: _, [] => rfl
  | c :: x, d :: y => by
    have := clashP_comm x y
    unfold clashP at this ⊢
    rw [List.zip_cons_cons, List.zip_cons_cons, List.all_cons, List.all_cons, this, okP_comm]
theorem clashB_comm : ∀ x y : List (List Nat), clashB x y = clashB y x
  | [], [] => rfl
  | [], _ :: _ => rfl
  | _ :: _, [] => rfl
  | c :: x, d :: y => by
    have := clashB_comm x y
    unfold clashB at this ⊢
    rw [List.zip_cons_cons, List.zip_cons_cons, List.all_cons, List.all_cons, this, clashP_comm]
/-- two rows of patterns that share no beginning -/
def ap (x y : List Str) : Prop := clashB (pls x) (pls y) = false
theorem ap_comm {x y : List Str} (h : ap x y) : ap y x := by unfold ap at h ⊢; rw [clashB_comm]; exact h
theorem okP_free {c d : Nat} (h : ¬ c = 48) (h' : ¬ c = 49) : okP c d = true := by
  unfold okP
  rw [beq_false_of_ne h, beq_false_of_ne h']; rfl
/-- a sign of its own kind put in place of a free one -/
theorem clashP_set : ∀ (x y : List Nat) (k s v : Nat), x[k]? = some s → ¬ s = 48 → ¬ s = 49 → clashP x y = false → clashP (x.set k v) y = false
  | [], _, _, _, _, h, _, _, _ => by simp at h
  | _ :: _, [], _, _, _, _, _, _, h => by unfold clashP at h; simp at h
  | c :: x, d :: y, 0, s, v, h, h0, h1, hc => by
    cases h
    unfold clashP at hc ⊢
    rw [List.zip_cons_cons, List.all_cons, okP_free h0 h1, Bool.true_and] at hc
    rw [List.set_cons_zero, List.zip_cons_cons, List.all_cons, hc, Bool.and_false]
  | c :: x, d :: y, k + 1, s, v, h, h0, h1, hc => by
    have ih := clashP_set x y k s v h h0 h1
    unfold clashP at hc ih ⊢
    rw [List.zip_cons_cons, List.all_cons] at hc
    rw [List.set_cons_succ, List.zip_cons_cons, List.all_cons]
    cases e : okP c d with
    | false => rfl
    | true =>
      rw [e, Bool.true_and] at hc
      show (true && _) = false
      rw [Bool.true_and, ih hc]
theorem clashB_set : ∀ (ps qs : List (List Nat)) (i k s v : Nat) (x : List Nat), ps[i]? = some x → x[k]? = some s → ¬ s = 48 → ¬ s = 49 → clashB ps qs = false → clashB (ps.set i (x.set k v)) qs = false
  | [], _, _, _, _, _, _, h, _, _, _, _ => by simp at h
  | _ :: _, [], _, _, _, _, _, _, _, _, _, h => by unfold clashB at h; simp at h
  | p :: ps, q :: qs, 0, k, s, v, x, h, hx, h0, h1, hc => by
    cases h
    unfold clashB at hc ⊢
    rw [List.zip_cons_cons, List.all_cons] at hc
    rw [List.set_cons_zero, List.zip_cons_cons, List.all_cons]
    cases e : clashP p q with
    | false =>
      show (clashP (p.set k v) q && _) = false
      rw [clashP_set p q k s v hx h0 h1 e, Bool.false_and]
    | true =>
      rw [show (clashP (p, q).1 (p, q).2) = true from e, Bool.true_and] at hc
      rw [hc, Bool.and_false]
  | p :: ps, q :: qs, i + 1, k, s, v, x, h, hx, h0, h1, hc => by
    have ih := clashB_set ps qs i k s v x h hx h0 h1
    unfold clashB at hc ih ⊢
    rw [List.zip_cons_cons, List.all_cons] at hc
    rw [List.set_cons_succ, List.zip_cons_cons, List.all_cons]
    cases e : clashP p q with
    | false => exact Bool.false_and _
    | true =>
      rw [show (clashP (p, q).1 (p, q).2) = true from e, Bool.true_and] at hc
      rw [ih hc, Bool.and_false]
theorem clashP_halves : ∀ (x : List Nat) (k : Nat), k < x.length → clashP (x.set k 49) (x.set k 48) = false
  | c :: x, 0, _ => rfl
  | c :: x, k + 1, h => by
    have := clashP_halves x k (by simpa using h)
    unfold clashP at this ⊢
    rw [List.set_cons_succ, List.set_cons_succ, List.zip_cons_cons, List.all_cons, this, Bool.and_false]
theorem clashB_halves : ∀ (ps : List (List Nat)) (i k : Nat) (x : List Nat), ps[i]? = some x → k < x.length → clashB (ps.set i (x.set k 49)) (ps.set i (x.set k 48)) = false
  | [], _, _, _, h, _ => by simp at h
  | p :: ps, 0, k, x, h, hk => by
    cases h
    unfold clashB
    rw [List.set_cons_zero, List.set_cons_zero, List.zip_cons_cons, List.all_cons]
    show (clashP _ _ && _) = false
    rw [clashP_halves p k hk, Bool.false_and]
  | p :: ps, i + 1, k, x, h, hk => by
    have := clashB_halves ps i k x h hk
    unfold clashB at this ⊢
    rw [List.set_cons_succ, List.set_cons_succ, List.zip_cons_cons, List.all_cons, this, Bool.and_false]
theorem fx_set : ∀ (x : List Nat) (k s v : Nat), x[k]? = some s → is01 s = false → is01 v = true → fxC (x.set k v) = fxC x + 1
  | [], _, _, _, h, _, _ => by simp at h
  | c :: x, 0, s, v, h, hs, hv => by
    cases h
    unfold fxC
    rw [List.set_cons_zero, List.countP_cons, List.countP_cons, hs, hv]; simp
  | c :: x, k + 1, s, v, h, hs, hv => by
    have := fx_set x k s v h hs hv
    unfold fxC at this ⊢
    rw [List.set_cons_succ, List.countP_cons, List.countP_cons, this]; omega
theorem fx_setB : ∀ (ps : List (List Nat)) (i k s v : Nat) (x : List Nat), ps[i]? = some x → x[k]? = some s → is01 s = false → is01 v = true → fxC (ps.set i (x.set k v)).flatten = fxC ps.flatten + 1
  | [], _, _, _, _, _, h, _, _, _ => by simp at h
  | p :: ps, 0, k, s, v, x, h, hx, hs, hv => by
    cases h
    rw [List.set_cons_zero, List.flatten_cons, List.flatten_cons, fx_app, fx_app, fx_set _ _ _ _ hx hs hv]; omega
  | p :: ps, i + 1, k, s, v, x, h, hx, hs, hv => by
    rw [List.set_cons_succ, List.flatten_cons, List.flatten_cons, fx_app, fx_app, fx_setB ps i k s v x h hx hs hv]; omega
/-- the patterns of a full book: one cell of m, or one of m and one of n -/
def signs (l : Nat) (n : Nat) (x : Str) : Prop := x.length = n ∧ ∀ c ∈ x.cps.toList, c = 48 ∨ c = 49 ∨ c = l
def FullP (n : Nat) (ps : List Str) : Prop := (∃ x, ps = [x] ∧ signs 109 n x) ∨ ∃ x y, ps = [x, y] ∧ signs 109 n x ∧ signs 110 n y
structure Full (n : Nat) (Fs : List (List Str)) : Prop where
  one : 1 ≤ Fs.length
  pat : ∀ ps ∈ Fs, FullP n ps
  apart : Fs.Pairwise ap
  all : (Fs.map fun ps => wt n (pls ps)).sum = 2 ^ (3 * n)
theorem FullP.at {n : Nat} {ps : List Str} (h : FullP n ps) {i : Nat} {x : Str} (hx : ps[i]? = some x) : ∃ l, (l = 109 ∨ l = 110) ∧ signs l n x := by
  rcases h with ⟨x0, rfl, h0⟩ | ⟨x0, y0, rfl, h0, h1⟩
  · match i, hx with
    | 0, hx => cases hx; exact ⟨109, .inl rfl, h0⟩
    | i + 1, hx => simp at hx
  · match i, hx with
    | 0, hx => cases hx; exact ⟨109, .inl rfl, h0⟩
    | 1, hx => cases hx; exact ⟨110, .inr rfl, h1⟩
    | i + 2, hx => simp at hx
theorem FullP.set {n : Nat} {ps : List Str} (h : FullP n ps) {i k v : Nat} {x y : Str} (hx : ps[i]? = some x) (hy : y.cps.toList = x.cps.toList.set k v) (hv : v = 48 ∨ v = 49) : FullP n (ps.set i y) := by
  have sg' : ∀ l, signs l n x → signs l n y := fun l ⟨h1, h2⟩ => by
    refine ⟨?_, fun c hc => ?_⟩
    · have e : y.length = y.cps.toList.length := by rw [Array.length_toList]; rfl
      have e2 : x.length = x.cps.toList.length := by rw [Array.length_toList]; rfl
      rw [e, hy, List.length_set, ← e2, h1]
    · rw [hy] at hc
      rcases List.mem_or_eq_of_mem_set hc with hc | hc
      · exact h2 c hc
      · rw [hc]; rcases hv with e | e
        · exact .inl e
        · exact .inr (.inl e)
  rcases h with ⟨x0, rfl, h0⟩ | ⟨x0, y0, rfl, h0, h1⟩
  · match i, hx with
    | 0, hx => cases hx; exact .inl ⟨y, rfl, sg' _ h0⟩
    | i + 1, hx => simp at hx
  · match i, hx with
    | 0, hx => cases hx; exact .inr ⟨y, y0, rfl, sg' _ h0, h1⟩
    | 1, hx => cases hx; exact .inr ⟨x0, y, rfl, h0, sg' _ h1⟩
    | i + 2, hx => simp at hx
theorem FullP.le {n : Nat} {ps : List Str} (h : FullP n ps) : 1 ≤ ps.length ∧ ps.length ≤ 2 ∧ ∀ z ∈ ps, z.length = n := by
  rcases h with ⟨x0, rfl, h0⟩ | ⟨x0, y0, rfl, h0, h1⟩
  · exact ⟨by simp, by simp, fun z hz => by rw [List.mem_singleton.mp hz]; exact h0.1⟩
  · refine ⟨by simp, by simp, fun z hz => ?_⟩
    simp at hz
    rcases hz with rfl | rfl
    · exact h0.1
    · exact h1.1
theorem flat_len {n : Nat} : ∀ {ps : List Str}, (∀ z ∈ ps, z.length = n) → (pls ps).flatten.length = ps.length * n
  | [], _ => by simp [pls]
  | z :: r, h => by
    have ih := flat_len (ps := r) fun y hy => h y (List.mem_cons_of_mem _ hy)
    have hz := h z (by simp)
    have e2 : z.length = z.cps.toList.length := by rw [Array.length_toList]; rfl
    unfold pls at ih ⊢
    rw [List.map_cons, List.flatten_cons, List.length_append, ih, ← e2, hz, List.length_cons, Nat.succ_mul]; omega
theorem fx_free_lt {ps : List (List Nat)} {i k s : Nat} {x : List Nat} (hx : ps[i]? = some x) (hk : x[k]? = some s) (hs : is01 s = false) : fxC ps.flatten < ps.flatten.length := by
  have h1 := fx_fr ps.flatten
  have : 0 < frC ps.flatten := by
    unfold frC
    rw [List.countP_pos_iff]
    refine ⟨s, List.mem_flatten.mpr ⟨x, List.mem_of_getElem? hx, List.mem_of_getElem? hk⟩, ?_⟩
    rw [hs]; rfl
  omega
/-- one entry gives way to others that are parts of it -/
theorem pair_put {α : Type} {R : α → α → Prop} {Fs gs : List α} {i : Nat} {f : α} (hf : Fs[i]? = some f) (h : Fs.Pairwise R) (hg : gs.Pairwise R) (h1 : ∀ g ∈ gs, ∀ e, R e f → R e g) (h2 : ∀ g ∈ gs, ∀ e, R f e → R g e) : (Fs.take i ++ gs ++ Fs.drop (i + 1)).Pairwise R := by
  have hi := (List.getElem?_eq_some_iff.mp hf).1
  have e : Fs = Fs.take i ++ f :: Fs.drop (i + 1) := by
    rw [← (List.getElem?_eq_some_iff.mp hf).2, ← List.drop_eq_getElem_cons hi, List.take_append_drop]
  rw [e, List.pairwise_append] at h
  obtain ⟨ha, hb, hab⟩ := h
  rw [List.pairwise_cons] at hb
  rw [List.pairwise_append, List.pairwise_append]
  refine ⟨⟨ha, hg, fun x hx g hgm => h1 g hgm x (hab x hx f (by simp))⟩, hb.2, fun x hx y hy => ?_⟩
  rcases List.mem_append.mp hx with hx | hx
  · exact hab x hx y (by simp [hy])
  · exact h2 x hx y (hb.1 y hy)
theorem sum_put {α : Type} {w : α → Nat} {Fs gs : List α} {i : Nat} {f : α} (hf : Fs[i]? = some f) (h : (gs.map w).sum = w f) : ((Fs.take i ++ gs ++ Fs.drop (i + 1)).map w).sum = (Fs.map w).sum := by
  have hi := (List.getElem?_eq_some_iff.mp hf).1
  have e : Fs = Fs.take i ++ f :: Fs.drop (i + 1) := by
    rw [← (List.getElem?_eq_some_iff.mp hf).2, ← List.drop_eq_getElem_cons hi, List.take_append_drop]
  rw [List.map_append, List.map_append, List.sum_append, List.sum_append, h]
  conv => rhs; rw [e, List.map_append, List.sum_append, List.map_cons, List.sum_cons]
  omega
theorem mem_put {α : Type} {Fs gs : List α} {i : Nat} {x : α} (h : x ∈ Fs.take i ++ gs ++ Fs.drop (i + 1)) : x ∈ Fs ∨ x ∈ gs := by
  rcases List.mem_append.mp h with h | h
  · rcases List.mem_append.mp h with h | h
    · exact .inl (List.mem_of_mem_take h)
    · exact .inr h
  · exact .inl (List.mem_of_mem_drop h)
theorem len_put {α : Type} {Fs gs : List α} {i : Nat} {f : α} (hf : Fs[i]? = some f) : (Fs.take i ++ gs ++ Fs.drop (i + 1)).length + 1 = Fs.length + gs.length := by
  have hi := (List.getElem?_eq_some_iff.mp hf).1
  rw [List.length_append, List.length_append, List.length_take, List.length_drop]; omega
theorem Full.grow {n : Nat} {Fs : List (List Str)} (h : Full n Fs) {i : Nat} {x y : Str} (hf : Fs[i]? = some [x]) (hy : y.cps.toList = List.replicate n 110) : Full n (Fs.take i ++ [[x, y]] ++ Fs.drop (i + 1)) := by
  have hx : signs 109 n x := by
    rcases h.pat _ (List.mem_of_getElem? hf) with ⟨x0, e, h0⟩ | ⟨x0, y0, e, _⟩
    · cases e; exact h0
    · cases e
  have hyl : y.length = n := by
    have e : y.length = y.cps.toList.length := by rw [Array.length_toList]; rfl
    rw [e, hy, List.length_replicate]
  have key : ∀ e, clashB (pls [x]) e = false → clashB (pls [x, y]) e = false := fun e he => by
    cases e with
    | nil => unfold clashB pls at he; simp at he
    | cons q r =>
      unfold clashB pls at he ⊢
      simp at he ⊢
      exact fun z => absurd he (by rw [z]; decide)
  refine ⟨?_, fun ps hps => ?_, ?_, ?_⟩
  · simp; omega
  · rcases mem_put hps with hm | hm
    · exact h.pat ps hm
    · rw [List.mem_singleton.mp hm]
      exact .inr ⟨x, y, rfl, hx, hyl, fun c hc => by rw [hy] at hc; exact .inr (.inr (List.mem_replicate.mp hc).2)⟩
  · refine pair_put hf h.apart (List.pairwise_singleton _ _) (fun g hg e he => ?_) fun g hg e he => ?_
    · rw [List.mem_singleton.mp hg]
      exact ap_comm (key _ (ap_comm he))
    · rw [List.mem_singleton.mp hg]
      exact key _ he
  · rw [sum_put hf, h.all]
    show wt n (pls [x, y]) + 0 = wt n (pls [x])
    unfold wt pls
    simp only [List.map_cons, List.map_nil, List.flatten_cons, List.flatten_nil, List.append_nil, fx_app, Nat.add_zero]
    have : fxC y.cps.toList = 0 := by
      rw [show y.cps.toList = List.replicate n 110 from hy]
      unfold fxC
      rw [List.countP_eq_zero]
      intro c hc
      rw [(List.mem_replicate.mp hc).2]; decide
    rw [this, Nat.add_zero]
theorem Full.halve {n : Nat} {Fs : List (List Str)} (h : Full n Fs) {i c k s : Nat} {ps : List Str} {x y1 y0 : Str} (hf : Fs[i]? = some ps) (hx : ps[c]? = some x) (hk : x.cps.toList[k]? = some s) (n0 : ¬ s = 48) (n1 : ¬ s = 49) (h1 : y1.cps.toList = x.cps.toList.set k 49) (h0 : y0.cps.toList = x.cps.toList.set k 48) : Full n (Fs.take i ++ [ps.set c y1, ps.set c y0] ++ Fs.drop (i + 1)) := by
  have hp := h.pat _ (List.mem_of_getElem? hf)
  have hs : is01 s = false := by unfold is01; rw [beq_false_of_ne n0, beq_false_of_ne n1]; rfl
  have hpx : (pls ps)[c]? = some x.cps.toList := by unfold pls; rw [List.getElem?_map, hx]; rfl
  have kl : k < x.cps.toList.length := (List.getElem?_eq_some_iff.mp hk).1
  have es : ∀ (v : Nat) (y : Str), y.cps.toList = x.cps.toList.set k v → pls (ps.set c y) = (pls ps).set c (x.cps.toList.set k v) := fun v y hy => by
    unfold pls
    rw [List.map_set]
    congr 1
  have key : ∀ (v : Nat) (y : Str) (e : List (List Nat)), y.cps.toList = x.cps.toList.set k v → clashB (pls ps) e = false → clashB (pls (ps.set c y)) e = false := fun v y e hy he => by
    rw [es v y hy]
    exact clashB_set _ _ _ _ _ _ _ hpx hk n0 n1 he
  have two : ∀ g ∈ [ps.set c y1, ps.set c y0], ∃ (v : Nat) (y : Str), g = ps.set c y ∧ y.cps.toList = x.cps.toList.set k v ∧ (v = 48 ∨ v = 49) := fun g hg => by
    simp at hg
    rcases hg with rfl | rfl
    · exact ⟨49, y1, rfl, h1, .inr rfl⟩
    · exact ⟨48, y0, rfl, h0, .inl rfl⟩
  refine ⟨?_, fun qs hq => ?_, ?_, ?_⟩
  · simp; omega
  · rcases mem_put hq with hm | hm
    · exact h.pat qs hm
    · obtain ⟨v, y, rfl, hy, hv⟩ := two _ hm
      exact hp.set hx hy hv
  · refine pair_put hf h.apart ?_ (fun g hg e he => ?_) fun g hg e he => ?_
    · rw [List.pairwise_cons]
      refine ⟨fun g hg => ?_, List.pairwise_singleton _ _⟩
      rw [List.mem_singleton.mp hg]
      unfold ap
      rw [es 49 y1 h1, es 48 y0 h0]
      exact clashB_halves _ _ _ _ hpx kl
    · obtain ⟨v, y, rfl, hy, hv⟩ := two _ hg
      exact ap_comm (key v y _ hy (ap_comm he))
    · obtain ⟨v, y, rfl, hy, hv⟩ := two _ hg
      exact key v y _ hy he
  · rw [sum_put hf, h.all]
    have f1 : ∀ (v : Nat) (y : Str), y.cps.toList = x.cps.toList.set k v → is01 v = true → wt n (pls (ps.set c y)) = 2 ^ (3 * n - (fxC (pls ps).flatten + 1)) := fun v y hy hv => by
      unfold wt
      rw [es v y hy, fx_setB _ _ _ _ _ _ hpx hk hs hv]
    show wt n (pls (ps.set c y1)) + (wt n (pls (ps.set c y0)) + 0) = wt n (pls ps)
    rw [f1 49 y1 h1 rfl, f1 48 y0 h0 rfl]
    unfold wt
    have hlt := fx_free_lt hpx hk hs
    obtain ⟨l1, l2, lz⟩ := hp.le
    rw [flat_len lz] at hlt
    have : ps.length * n ≤ 2 * n := Nat.mul_le_mul_right _ l2
    rw [show 3 * n - fxC (pls ps).flatten = (3 * n - (fxC (pls ps).flatten + 1)) + 1 by omega, Nat.pow_succ]
    omega
theorem full_first {n : Nat} {x : Str} (hx : x.cps.toList = List.replicate n 109) : Full n [[x]] := by
  have hl : x.length = n := by
    have e : x.length = x.cps.toList.length := by rw [Array.length_toList]; rfl
    rw [e, hx, List.length_replicate]
  refine ⟨by simp, fun ps hps => ?_, List.pairwise_singleton _ _, ?_⟩
  · rw [List.mem_singleton.mp hps]
    exact .inl ⟨x, rfl, hl, fun c hc => by rw [hx] at hc; exact .inr (.inr (List.mem_replicate.mp hc).2)⟩
  · show wt n (pls [x]) + 0 = _
    unfold wt pls
    simp only [List.map_cons, List.map_nil, List.flatten_cons, List.flatten_nil, List.append_nil, Nat.add_zero]
    have : fxC x.cps.toList = 0 := by
      rw [show x.cps.toList = List.replicate n 109 from hx]
      unfold fxC
      rw [List.countP_eq_zero]
      intro c hc
      rw [(List.mem_replicate.mp hc).2]; decide
    rw [this]; rfl
theorem FullP.ok {n : Nat} {ps : List Str} (h : FullP n ps) : PatsOk n 1 ps := by
  obtain ⟨l1, l2, lz⟩ := h.le
  have sok : ∀ l, (l = 109 ∨ l = 110) → ∀ x : Str, signs l n x → ∀ c ∈ x.cps.toList, okS c = true := fun l hl x hx c hc => by
    rcases hx.2 c hc with rfl | rfl | rfl
    · decide
    · decide
    · rcases hl with rfl | rfl <;> decide
  refine patsOk_of (e := 0) l1 (by omega) (fun z hz => ⟨lz z hz, ?_⟩) (by decide) (by omega) fun c hc => ?_
  · obtain ⟨i, hi⟩ := List.getElem?_of_mem hz
    obtain ⟨l, hl, hs⟩ := h.at hi
    exact sok l hl z hs
  · have cnt : ∀ l (x : Str), signs l n x → ¬ c = l → x.cps.toList.count c = 0 := fun l x hx hne => List.count_eq_zero.mpr fun hm => by
      rcases hx.2 c hm with e | e | e
      · rw [e] at hc; exact absurd hc (by decide)
      · rw [e] at hc; exact absurd hc (by decide)
      · exact hne e
    have le : ∀ l (x : Str), signs l n x → x.cps.toList.count c ≤ n := fun l x hx => by
      have e : x.length = x.cps.toList.length := by rw [Array.length_toList]; rfl
      have := List.count_le_length (a := c) (l := x.cps.toList)
      rw [← e, hx.1] at this
      exact this
    have hreg : c = 109 ∨ c = 110 → totL 0 n c = n := fun h => by
      rcases h with rfl | rfl <;> rfl
    rcases h with ⟨x, rfl, hx⟩ | ⟨x, y, rfl, hx, hy⟩
    · unfold pls
      simp only [List.map_cons, List.map_nil, List.flatten_cons, List.flatten_nil, List.append_nil]
      by_cases e : c = 109
      · rw [hreg (.inl e)]; exact le _ x hx
      · rw [cnt _ x hx e]; exact Nat.zero_le _
    · unfold pls
      simp only [List.map_cons, List.map_nil, List.flatten_cons, List.flatten_nil, List.append_nil, List.count_append]
      have ex := le _ x hx
      have ey := le _ y hy
      by_cases e : c = 109
      · have := cnt _ y hy (by omega)
        rw [hreg (.inl e), this]
        exact ex
      · have e0 := cnt _ x hx e
        by_cases e2 : c = 110
        · rw [hreg (.inr e2), e0]
          exact Nat.le_trans (Nat.le_of_eq (Nat.zero_add _)) ey
        · rw [e0, cnt _ y hy e2]; exact Nat.zero_le _
end My

/-! PC -/
namespace My
open PySem L2
local macro_rules | `(tactic| walk_at "side") => `(tactic| first | with_reducible rfl | assumption | rfl | decide | omega | exact cpow1 (by omega) (by omega) | exact cdiv (by omega) (by omega) | exact two_pos _ | exact SqL.of (by assumption) | exact SqT.of (by assumption) | exact TyX.base (TyOf.int _) | exact TyX.base (TyOf.bl _) | exact TyX.base TyOf.non | exact scal_opt _ _ | exact k_ii | exact k_bi | exact k_ni | exact k_ib | exact k_bb | exact TyX.base (TyOf.lst (by assumption)) | exact k_ll | exact k_lt)
local macro_rules | `(tactic| walk_at "p") => `(tactic| repeat (first | refine And.intro (by walk_at "side") ?_ | apply Exists.intro | refine iteN (by assumption) ?_ | refine iteP (by assumption) ?_ | refine iteN (by decide) ?_ | refine iteP (by decide) ?_))

theorem neNat {a b : Nat} (h : a = b) : ¬ (!decide (V.int (a : Nat) = V.int (b : Nat))) = true := by rw [h]; simp
theorem neV {x y : V} (h : x = y) : ¬ (!decide (x = y)) = true := by subst h; simp
theorem decV {x y z : V} (h : y = z) : decide (x = y) = decide (x = z) := by subst h; rfl
section
variable {P : Program} {w : World} {K : PySem.W.Frag} {mg : Str → Option Value} {base : Heap}
def sp_law_is_count (T : Txt K mg) : Sp := fun vs H Q _ => ∃ (b a : Addr) (F : List FM) (n r : Nat), vs = [.ref b, .ref a, .int (n : Nat)] ∧ BookAt T.C_Book T.C_Form H b n r F ∧ RowsAt H a F ∧ FormsOk n F ∧ ∀ H', Same H H' → Q (.int (wts n F : Nat)) H'
theorem sp_law_is_count_len {T : Txt K mg} {vs H Q E} (h : sp_law_is_count T vs H Q E) : vs.length = 3 := by obtain ⟨_, _, _, _, _, rfl, _⟩ := h; rfl
theorem ok_law_is_count (T : Txt K mg) : FnOk P w K mg base CX0 4 T.f_law_is_count T.fd_law_is_count ["_law_book", "_law_rows", "_law_word"] (sp_law_is_count T) := by
  have G_law_free := ok_law_free (P := P) (w := w) (base := base) T; have G_law_is_int := ok_law_is_int (P := P) (w := w) (base := base) T; have G_begins := ok_begins (P := P) (w := w) (base := base) T; have G_fixed := ok_fixed (P := P) (w := w) (base := base) T; have G_is_full := ok_is_full (P := P) (w := w) (base := base) T
  refine T.F_law_is_count.ok sc_law_is_count (fun vs H Q E h => sp_law_is_count_len h) (fun cdv A outer s H vs Q E hr h => ?_)
  obtain ⟨b, a, F, n, r, rfl, hB, hA, hFO, k⟩ := h
  refine ⟨_, (pss_cons (ps_set (i := 3) sc_law_is_count.nd rfl (Or.inl rfl) pe_int)
       (pss_cons (ps_for PassesOwn.never rfl (pi_range1 (by rfl) T.n_range (pa_cons (pe_callB call_lenL (by rfl) T.n_len (by decide +kernel) (pa_cons (pv 1) pa_nil)) pa_nil)) (pg_name (i := 4) sc_law_is_count.nd rfl (Or.inl rfl))
        (pss_cons (ps_set (i := 5) sc_law_is_count.nd rfl (Or.inl rfl) (pe_call G_law_free (hr.mono (by decide)) rfl T.g_law_free T.F_law_free.kp T.b_law_free .nil pass0 (pa_cons (pe_ix ix_tup (pe_ix ix_list (pv 1) (pv 4) (fun _ _ => rfl)) pe_int (fun _ _ => rfl)) pa_nil)))
       (pss_cons (ps_set (i := 6) sc_law_is_count.nd rfl (Or.inl rfl) (pe_callB call_lenL (by rfl) T.n_len (by decide +kernel) (pa_cons (pe_ix ix_tup (pe_ix ix_list (pv 1) (pv 4) (fun _ _ => rfl)) pe_int (fun _ _ => rfl)) pa_nil)))
       (pss_cons (ps_aug (i := 3) sc_law_is_count.nd rfl (Or.inl rfl) (pe_op op_shl pe_int (pe_op op_sub (pe_op op_mul pe_int (pv 2)) (pe_op op_sub (pe_op op_mul (pv 6) (pv 2)) (pv 5)))) ip_add)
       (pss_one (ps_if (pt_cmpR op_ne (pe_call G_fixed (hr.mono (by decide)) rfl T.g_fixed T.F_fixed.kp T.b_fixed .nil pass0 (pa_cons (pe_fldA (pe_ix ix_tup (pe_fldA (pv 0)) (pv 4) (fun _ _ => rfl))) pa_nil)) (pe_op op_sub (pe_op op_mul (pv 6) (pv 2)) (pv 5)) (nomark _))
        (pss_one (ps_ret pe_non))
        pss_nil))))))
       (pss_cons (ps_set (i := 7) sc_law_is_count.nd rfl (Or.inl rfl) (pe_call G_begins (hr.mono (by decide)) rfl T.g_begins T.F_begins.kp T.b_begins .nil pass0 (pa_cons (pv 0) pa_nil)))
       (pss_cons (ps_set (i := 8) sc_law_is_count.nd rfl (Or.inl rfl) (pe_call G_is_full hr rfl T.g_is_full T.F_is_full.kp T.b_is_full .nil pass0 (pa_cons (pv 0) pa_nil)))
       (pss_cons (ps_if (PW.pt (pw_or (pt_not (pt_val (pe_call G_law_is_int (hr.mono (by decide)) rfl T.g_law_is_int T.F_law_is_int.kp T.b_law_is_int .nil pass0 (pa_cons (pv 7) pa_nil)))) (pw_or (pt_cmpR op_ne (pv 7) (pv 3) (nomark _)) (pw_or1 (pt_not (pt_val (pe_callB call_isTy (by rfl) T.n_isinstance (by decide +kernel) (pa_cons (pv 8) (pa_cons (pe_bltn (v := .ty "bool") (by rfl) T.n_bool (by decide +kernel) rfl) pa_nil)))))))))
        (pss_one (ps_ret pe_non))
        pss_nil)
       (pss_cons (ps_if (pt_cmpR op_ne (pv 8) (pe_cmpR op_eq (pv 3) (pe_op op_shl pe_int (pe_op op_mul pe_int (pv 2))) (nomark _)) (nomark _))
        (pss_one (ps_ret pe_non))
        pss_nil)
       (pss_one (ps_ret (pv 3))))))))), ?_⟩
  have sz : sizeLine = 16777216 := sizeLine_eq
  obtain ⟨n8, f32, hF⟩ := hFO
  obtain ⟨ts, ha, hR⟩ := hA
  have htl := hR.1
  refine ⟨_, rfl, a, _, rfl, SqL.of ha, _, rfl, by omega, by omega, ?_⟩
  refine for_range (lo := 0) (n := ((ts.length : Nat) : Int).toNat) (fun i σ H3 => H3 = H ∧ ∃ v4 v5 v6 v7 v8 : Option V, σ = [some (.ref b), some (.ref a), some (.int (n : Nat)), some (.int (((F.take i).map fun f => wt n f.pl).sum : Nat)), v4, v5, v6, v7, v8]) ⟨rfl, none, none, none, none, none, rfl⟩ ?_ ?_
  · rintro i σ H3 hi ⟨rfl, v4, v5, v6, v7, v8, rfl⟩
    rw [Int.toNat_natCast] at hi
    obtain ⟨t, f, hf, hu, hr⟩ := hR.at (i := i) (by omega)
    obtain ⟨pa, la, ht, hpa, hla⟩ := hr
    obtain ⟨f1, f3, fz⟩ := hF f (List.mem_of_getElem? hf)
    obtain ⟨bdx, ft, nd, tx, hO, us, hus, hU⟩ := hB
    have hul := hU.1
    obtain ⟨u, f', hf', hu', hr'⟩ := hU.at (i := i) (by omega)
    rw [hf] at hf'
    cases hf'
    obtain ⟨fdx, fpt, fln, flt, ffx, hP⟩ := hr'
    have hfx := fx_le f3 fz
    have ei : (0 + (i : Int)) = (i : Int) := by omega
    have hat : atI ts (0 + (i : Int)) = some (.ref t) := by rw [ei]; exact atI_nat hu
    have hat2 : atI us (0 + (i : Int)) = some (.ref u) := by rw [ei]; exact atI_nat hu'
    have hml : CMul (((f.ps.map V.str).length : Nat) : Int) (n : Int) := .inr ⟨by omega, by omega⟩
    have eL : (((f.ps.map V.str).length : Nat) : Int) * (n : Int) - (frC (pls f.ps).flatten : Nat) = (fxC (pls f.ps).flatten : Nat) := by
      rw [List.length_map, ← Int.natCast_mul]; omega
    refine ⟨_, rfl, _, rfl, a, _, _, _, rfl, rfl, SqL.of ha, hat, t, _, _, _, rfl, rfl, SqT.of ht, rfl, pa, f.ps, rfl, hpa, ?_⟩
    refine ⟨_, rfl, _, rfl, a, _, _, _, rfl, rfl, SqL.of ha, hat, t, _, _, _, rfl, rfl, SqT.of ht, rfl, pa, _, rfl, SqL.of hpa, ?_⟩
    refine ⟨_, rfl, _, rfl, _, _, rfl, rfl, mul3 n8, _, rfl, _, rfl, _, _, rfl, rfl, hml, _, rfl, _, _, rfl, rfl, _, _, rfl, rfl, _, _, rfl, rfl, cpow1 ?_ ?_, _, _, rfl, rfl, ?_⟩
    · rw [eL]; omega
    · rw [eL]; omega
    dsimp only
    rw [eL, shl_wt hfx.2]
    refine ⟨_, rfl, b, T.C_Book, bdx, _, _, rfl, hO, T.cl_Book, T.nA_Book_forms, look_book_forms .., _, rfl, ft, _, _, _, rfl, rfl, SqT.of hus, hat2, u, T.C_Form, fdx, _, _, rfl, hP.o, T.cl_Form, T.nA_Form_patterns, look_form_patterns .., fpt, f.ps, rfl, hP.pt, lens24 f3 n8 fz, ?_⟩
    refine ⟨_, rfl, _, rfl, _, _, rfl, rfl, hml, _, rfl, _, _, rfl, rfl, rfl, _, rfl, iteN ?_ ?_⟩
    · exact neV (congrArg V.int eL.symm)
    refine ⟨rfl, some (.int (0 + (i : Int))), some (.int (frC (pls f.ps).flatten : Nat)), some (.int ((f.ps.map V.str).length : Nat)), v7, v8, ?_⟩
    rw [List.take_succ, hf, List.map_append, List.sum_append, Int.natCast_add]
    rw [show ((some f).toList.map fun f => wt n f.pl).sum = wt n (pls f.ps) from Nat.add_zero _]
    rfl
  · rintro σ H3 ⟨rfl, v4, v5, v6, v7, v8, rfl⟩
    rw [List.take_of_length_le (by rw [Int.toNat_natCast]; omega)]
    have eW : (F.map fun f => wt n f.pl).sum = wts n F := rfl
    rw [eW]
    refine ⟨_, rfl, b, F, n, r, rfl, hB, ⟨n8, f32, hF⟩, fun H5 s5 => ?_⟩
    refine ⟨_, rfl, b, F, n, r, rfl, hB.news s5, ⟨n8, f32, hF⟩, fun H6 s6 => ?_⟩
    refine ⟨_, rfl, _, rfl, rfl, _, rfl, iteN (by show ¬ (!true) = true; decide) ?_⟩
    refine ⟨_, rfl, _, rfl, rfl, _, rfl, iteN (neNat rfl) ?_⟩
    refine ⟨_, rfl, _, _, _, rfl, ty4 (by rfl), _, k_4b (by rfl), _, rfl, iteN (by show ¬ (!true) = true; decide) ?_⟩
    refine ⟨_, rfl, _, rfl, _, rfl, _, _, rfl, rfl, mul3 n8, _, _, rfl, rfl, cpow1 (by omega) (by omega), rfl, rfl, _, rfl, iteN ?_ ?_⟩
    · exact neV (congrArg V.bl ((intEq _ _).symm.trans (decV (congrArg V.int (shl_all n).symm))))
    exact ⟨_, rfl, k _ (s5.trans s6)⟩
end
end My

/-! PD -/
namespace My
open PySem L2
local macro_rules | `(tactic| walk_at "side") => `(tactic| first | with_reducible rfl | assumption | rfl | decide | omega | exact cpow1 (by omega) (by omega) | exact cdiv (by omega) (by omega) | exact two_pos _ | exact SqL.of (by assumption) | exact SqT.of (by assumption) | exact TyX.base (TyOf.int _) | exact TyX.base (TyOf.bl _) | exact TyX.base TyOf.non | exact scal_opt _ _ | exact k_ii | exact k_bi | exact k_ni | exact k_ib | exact k_bb | exact TyX.base (TyOf.lst (by assumption)) | exact k_ll | exact k_lt)
local macro_rules | `(tactic| walk_at "p") => `(tactic| repeat (first | refine And.intro (by walk_at "side") ?_ | apply Exists.intro | refine iteN (by assumption) ?_ | refine iteP (by assumption) ?_ | refine iteN (by decide) ?_ | refine iteP (by decide) ?_))

theorem cutV_from {xs : List V} {v : Nat} (h : v ≤ xs.length) : cutV xs (some (v : Int)) none = xs.drop v := by
  unfold cutV
  rw [sIx_nat h]
  show List.take (xs.length - v) (List.drop v _) = _
  rw [List.take_of_length_le]
  rw [List.length_drop]; exact Nat.le_refl _
theorem Refs.take {α : Type} {H : Hp} {ts : List V} {xs : List α} {R : Hp → Addr → α → Prop} (h : Refs H ts xs R) (n : Nat) : Refs H (ts.take n) (xs.take n) R := by
  refine ⟨by rw [List.length_take, List.length_take, h.1], fun i x hx => ?_⟩
  rw [List.getElem?_take] at hx
  split at hx
  · rename_i hi
    obtain ⟨u, e, r⟩ := h.2 i x hx
    exact ⟨u, by rw [List.getElem?_take, if_pos hi]; exact e, r⟩
  · cases hx
theorem Refs.drop {α : Type} {H : Hp} {ts : List V} {xs : List α} {R : Hp → Addr → α → Prop} (h : Refs H ts xs R) (n : Nat) : Refs H (ts.drop n) (xs.drop n) R := by
  refine ⟨by rw [List.length_drop, List.length_drop, h.1], fun i x hx => ?_⟩
  rw [List.getElem?_drop] at hx
  obtain ⟨u, e, r⟩ := h.2 _ x hx
  exact ⟨u, by rw [List.getElem?_drop]; exact e, r⟩
theorem Refs.app {α : Type} {H : Hp} {ts us : List V} {xs ys : List α} {R : Hp → Addr → α → Prop} (h : Refs H ts xs R) (g : Refs H us ys R) : Refs H (ts ++ us) (xs ++ ys) R := by
  refine ⟨by rw [List.length_append, List.length_append, h.1, g.1], fun i x hx => ?_⟩
  rw [List.getElem?_append] at hx
  split at hx
  · rename_i hi
    obtain ⟨u, e, r⟩ := h.2 _ x hx
    exact ⟨u, by rw [List.getElem?_append, if_pos (by rw [h.1]; exact hi)]; exact e, r⟩
  · rename_i hi
    obtain ⟨u, e, r⟩ := g.2 _ x hx
    exact ⟨u, by rw [List.getElem?_append, if_neg (by rw [h.1]; exact hi), h.1]; exact e, r⟩
def PsAt (H : Hp) (u : Addr) (ps : List Str) : Prop := H u = some (.lst (ps.map V.str))
theorem ps_ne {H : Hp} {p q u : Addr} {ps : List Str} (h : PsAt H u ps) (d : Dr H p q) (l1 : 1 ≤ ps.length) : u ≠ p := fun z => by
  obtain ⟨kk, hp⟩ := d.lst
  unfold PsAt at h
  rw [z, hp] at h
  have e : [V.int (kk : Int), .ref q] = ps.map V.str := HO.lst.inj (Option.some.inj h)
  cases ps with
  | nil => simp at l1
  | cons x r => cases e
theorem refs_ne {α : Type} {H : Hp} {p q a : Addr} {us : List V} {xs : List α} {R : Hp → Addr → α → Prop} (h : H a = some (.lst us)) (d : Dr H p q) (g : Refs H us xs R) (l1 : 1 ≤ xs.length) : a ≠ p := fun z => by
  obtain ⟨kk, hp⟩ := d.lst
  rw [z, hp] at h
  have e : [V.int (kk : Int), .ref q] = us := HO.lst.inj (Option.some.inj h)
  obtain ⟨u, x, _, e2, _⟩ := g.at (i := 0) l1
  rw [← e] at e2
  cases e2
theorem psRefs_kp {n : Nat} {H H' : Hp} {p q : Addr} {us : List V} {Fs : List (List Str)} (g : Refs H us Fs PsAt) (hF : Full n Fs) (d : Dr H p q) (k : KP p H H') : Refs H' us Fs PsAt :=
  g.map fun u ps hm r => k _ _ r (ps_ne r d (hF.pat ps hm).le.1)
theorem dpAll_strs {K : PySem.W.Frag} {H : Hp} : ∀ ps : List Str, DpAll K H (ps.map V.str) (ps.map PyData.str)
  | [] => .nil
  | z :: r => .cons (.str z) (dpAll_strs r)
theorem shaped_strs {ps : List Str} (h : ∀ z ∈ ps, PyData.strOk z = true) : SeqAt.shaped (.list (ps.map PyData.str)) = true := by
  have h1 : ∀ ps : List Str, (∀ z ∈ ps, PyData.strOk z = true) → PyData.canLayAll0 (ps.map PyData.str) = true := fun ps => by
    induction ps with
    | nil => intro _; simp [PyData.canLayAll0]
    | cons c r ih => intro h; simp [PyData.canLayAll0, PyData.canLay0, h c (by simp), ih fun z hz => h z (by simp [hz])]
  have h2 : ∀ ps : List Str, PyData.depthAll (ps.map PyData.str) ≤ 1 := fun ps => by
    induction ps with
    | nil => simp [PyData.depthAll]
    | cons c r ih => simp [PyData.depthAll, PyData.depth]; omega
  have := h2 ps
  simp [SeqAt.shaped, PyData.canLay0, PyData.depth, h1 ps h]; omega
theorem eqv_strs : ∀ ps : List Str, PyData.eqvAll (ps.map PyData.str) (ps.map PyData.str) = true
  | [] => by simp [PyData.eqvAll]
  | c :: r => by simp [PyData.eqvAll, PyData.eqv, eqv_strs r]
/-- two rows of strings compared: equal ones are told so -/
theorem eqStrs {K : PySem.W.Frag} {H : Hp} {a b : Addr} {ps qs : List Str} {Q : VK} (ha : H a = some (.lst (ps.map V.str))) (hb : H b = some (.lst (qs.map V.str))) (h1 : ∀ z ∈ ps, PyData.strOk z = true) (h2 : ∀ z ∈ qs, PyData.strOk z = true) (k : ∀ c : Bool, (c = false → ¬ ps = qs) → Q (.bl c) H) : rEqD K (.ref a) (.ref b) H Q :=
  ⟨_, _, .lst (SqL.of ha) (dpAll_strs ps), .lst (SqL.of hb) (dpAll_strs qs), shaped_strs h1, shaped_strs h2, k _ fun hc e => by
    subst e
    have : PyData.eqv (.list (ps.map PyData.str)) (.list (ps.map PyData.str)) = true := by simp [PyData.eqv, eqv_strs ps]
    rw [this] at hc; cases hc⟩
theorem sign_ok {l n : Nat} {x : Str} (hl : l = 109 ∨ l = 110) (h : signs l n x) : PyData.strOk x = true := by
  unfold PyData.strOk
  rw [← Array.all_toList, List.all_eq_true]
  intro c hc
  refine decide_eq_true ?_
  rcases h.2 c hc with e | e | e
  · omega
  · omega
  · rcases hl with e2 | e2 <;> omega
theorem FullP.strs {n : Nat} {ps : List Str} (h : FullP n ps) : ∀ z ∈ ps, PyData.strOk z = true := fun z hz => by
  obtain ⟨i, hi⟩ := List.getElem?_of_mem hz
  obtain ⟨l, hl, hs⟩ := h.at hi
  exact sign_ok hl hs
theorem repS_n (n : Nat) : (repS "n" n).cps.toList = List.replicate n 110 := by
  unfold repS
  have g : ∀ (n : Nat) (a : Array Nat), ((List.replicate n ("n" : Str).cps).foldl (· ++ ·) a).toList = a.toList ++ List.replicate n 110 := fun n => by
    induction n with
    | zero => intro a; simp
    | succ n ih =>
      intro a
      rw [List.replicate_succ, List.foldl_cons, ih, Array.toList_append]
      have : ("n" : Str).cps.toList = [110] := by decide
      rw [this, List.append_assoc]; rfl
  have := g n #[]
  simpa using this
theorem repS_m (n : Nat) : (repS "m" n).cps.toList = List.replicate n 109 := by
  unfold repS
  have g : ∀ (n : Nat) (a : Array Nat), ((List.replicate n ("m" : Str).cps).foldl (· ++ ·) a).toList = a.toList ++ List.replicate n 109 := fun n => by
    induction n with
    | zero => intro a; simp
    | succ n ih =>
      intro a
      rw [List.replicate_succ, List.foldl_cons, ih, Array.toList_append]
      have : ("m" : Str).cps.toList = [109] := by decide
      rw [this, List.append_assoc]; rfl
  have := g n #[]
  simpa using this
theorem put_l (x : Str) {k v : Nat} (hk : k < x.length) : ((cutS x none (some (k : Int)) ++ sg v) ++ cutS x (some ((k : Int) + 1)) none).cps.toList = x.cps.toList.set k v := by
  have xl : x.cps.toList.length = x.length := by rw [Array.length_toList]; rfl
  rw [app_l, app_l, show ((k : Int) + 1) = ((k + 1 : Nat) : Int) by omega, cutS_from (by omega), cutS_to (by omega), show (sg v).cps.toList = [v] from rfl, List.append_assoc, List.set_eq_take_append_cons_drop, if_pos (by omega)]
  rfl
section
variable {P : Program} {w : World} {K : PySem.W.Frag} {mg : Str → Option Value} {base : Heap}
def sp_law_split (_ : Txt K mg) : Sp := fun vs H Q _ => ∃ (p q a : Addr) (us : List V) (Fs : List (List Str)) (n : Nat), vs = [.ref p, .ref a, .int (n : Nat)] ∧ Dr H p q ∧ p ≠ q ∧ H a = some (.lst us) ∧ Refs H us Fs PsAt ∧ Full n Fs ∧ 4 ≤ n ∧ n ≤ 8 ∧ Fs.length ≤ 20 ∧
  ∀ H' l us' Fs', Dr H' p q → H' l = some (.lst us') → Refs H' us' Fs' PsAt → Full n Fs' → Fs'.length ≤ Fs.length + 1 → KP p H H' → Q (.ref l) H'
theorem sp_law_split_len {T : Txt K mg} {vs H Q E} (h : sp_law_split T vs H Q E) : vs.length = 3 := by obtain ⟨_, _, _, _, _, _, rfl, _⟩ := h; rfl
theorem ok_law_split (T : Txt K mg) : FnOk P w K mg base CX0 2 T.f_law_split T.fd_law_split ["_law_draws_here", "_law_forms", "_law_word"] (sp_law_split T) := by
  have G_law_take := ok_law_take (P := P) (w := w) (base := base) T
  refine T.F_law_split.ok sc_law_split (fun vs H Q E h => sp_law_split_len h) (fun cdv A outer s H vs Q E hr h => ?_)
  obtain ⟨p, q, a, us, Fs, n, rfl, hd, hpq, ha, hR, hFu, n4, n8, f20, k⟩ := h
  refine ⟨_, (pss_cons (ps_set (i := 3) sc_law_split.nd rfl (Or.inl rfl) (pe_call G_law_take hr rfl T.g_law_take T.F_law_take.kp T.b_law_take .nil pass0 (pa_cons (pv 0) (pa_cons (pe_callB call_lenL (by rfl) T.n_len (by decide +kernel) (pa_cons (pv 1) pa_nil)) pa_nil))))
       (pss_cons (ps_set (i := 4) sc_law_split.nd rfl (Or.inl rfl) (pe_ix ix_list (pv 1) (pv 3) (fun _ _ => rfl)))
       (Evl.pss_cut (ps_if (PW.pt (pw_and (pt_cmpR op_eq (pe_callB call_lenL (by rfl) T.n_len (by decide +kernel) (pa_cons (pv 4) pa_nil)) pe_int (nomark _)) (pw_and1 (pt_cmpR op_eq (pe_call G_law_take hr rfl T.g_law_take T.F_law_take.kp T.b_law_take .nil pass0 (pa_cons (pv 0) (pa_cons pe_int pa_nil))) pe_int (nomark _)))))
        (pss_one (ps_ret (pe_op op_cat (pe_op op_cat (pe_slice sl_list (pv 1) po_none (po_some (pv 3))) (pe_lst (pa_cons (pe_lst (pa_cons (pe_ix ix_list (pv 4) pe_int (fun _ _ => rfl)) (pa_cons (pe_op op_rep_str pe_str (pv 2)) pa_nil))) pa_nil))) (pe_slice sl_list (pv 1) (po_some (pe_op op_add (pv 3) pe_int)) po_none))))
        pss_nil)
       (pss_cons (ps_set (i := 5) sc_law_split.nd rfl (Or.inl rfl) (pe_call G_law_take hr rfl T.g_law_take T.F_law_take.kp T.b_law_take .nil pass0 (pa_cons (pv 0) (pa_cons (pe_callB call_lenL (by rfl) T.n_len (by decide +kernel) (pa_cons (pv 4) pa_nil)) pa_nil))))
       (pss_cons (ps_set (i := 6) sc_law_split.nd rfl (Or.inl rfl) (pe_call G_law_take hr rfl T.g_law_take T.F_law_take.kp T.b_law_take .nil pass0 (pa_cons (pv 0) (pa_cons (pv 2) pa_nil))))
       (pss_cons (ps_set (i := 7) sc_law_split.nd rfl (Or.inl rfl) (pe_lst pa_nil))
       (pss_cons (ps_for PassesOwn.never rfl (pi_list (pe_lst (pa_cons pe_str (pa_cons pe_str pa_nil)))) (pg_name (i := 8) sc_law_split.nd rfl (Or.inl rfl))
        (pss_cons (ps_set (i := 9) sc_law_split.nd rfl (Or.inl rfl) (pe_callTy call_listL (by rfl) T.n_list (by decide +kernel) (pa_cons (pv 4) pa_nil)))
       (pss_cons (ps_asg (pe_op op_add_str (pe_op op_add_str (pe_slice sl_str (pe_ix ix_list (pv 9) (pv 5) (fun _ _ => rfl)) po_none (po_some (pv 6))) (pv 8)) (pe_slice sl_str (pe_ix ix_list (pv 9) (pv 5) (fun _ _ => rfl)) (po_some (pe_op op_add (pv 6) pe_int)) po_none)) (pg_sub (pv 9) (pv 5) set_list))
       (pss_one (ps_expr (pe_bm PySem.F.plainAttrs_list PySem.F.slot_list_append PySem.F.type_list_append mt_append (pv 7) (pa_cons (pv 9) pa_nil)))))))
       (pss_cons (ps_if (PW.pt (pw_or (pt_cmpR (op_eqD hr.units) (pe_ix ix_list (pv 7) pe_int (fun _ _ => rfl)) (pv 4) (nomark _)) (pw_or1 (pt_cmpR (op_eqD hr.units) (pe_ix ix_list (pv 7) pe_int (fun _ _ => rfl)) (pv 4) (nomark _)))))
        (pss_one (ps_ret (pv 1)))
        pss_nil)
       (pss_one (ps_ret (pe_op op_cat (pe_op op_cat (pe_slice sl_list (pv 1) po_none (po_some (pv 3))) (pv 7)) (pe_slice sl_list (pv 1) (po_some (pe_op op_add (pv 3) pe_int)) po_none)))))))))))), ?_⟩
  have sz : sizeLine = 16777216 := sizeLine_eq
  have hul := hR.1
  have f1 := hFu.one
  have ap0 := refs_ne ha hd hR f1
  refine ⟨_, rfl, _, rfl, a, _, rfl, SqL.of ha, p, q, _, rfl, hd, hpq, by omega, fun H1 v v0 v1 d1 k1 => ?_⟩
  have ha1 := k1 _ _ ha ap0
  have hR1 := psRefs_kp hR hFu hd k1
  obtain ⟨i, rfl⟩ : ∃ i : Nat, v = (i : Nat) := ⟨v.toNat, by omega⟩
  have hil : i < us.length := by omega
  obtain ⟨u, ps, hf, hu, hps⟩ := hR1.at (i := i) (by omega)
  have hP := hFu.pat ps (List.mem_of_getElem? hf)
  obtain ⟨p1, p2, pz⟩ := hP.le
  have up := ps_ne hps d1 p1
  have hpl : (ps.map V.str).length = ps.length := List.length_map _
  have hat : atI us (i : Int) = some (.ref u) := atI_nat hu
  refine ⟨_, rfl, _, rfl, a, _, _, _, rfl, rfl, SqL.of ha1, hat, ?_⟩
  refine ⟨fun σ' H' => Dr H' p q ∧ KP p H1 H' ∧ σ' = [some (.ref p), some (.ref a), some (.int (n : Nat)), some (.int (i : Nat)), some (.ref u), none, none, none, none, none], ?_, ?_⟩
  · refine ⟨_, rfl, u, _, rfl, SqL.of hps, rfl, _, rfl, iteB (fun e => ?_) fun e => ?_⟩
    · refine ⟨_, rfl, p, q, _, rfl, d1, hpq, by decide, fun H2 b b0 b1 d2 k2 => ⟨rfl, _, rfl, iteB (fun e2 => ?_) fun e2 => ?_⟩⟩
      · have hone : ps.length = 1 := by
          have : ((ps.map V.str).length : Int) = 1 := V.int.inj (of_decide_eq_true e)
          omega
        obtain ⟨x, rfl⟩ : ∃ x, ps = [x] := by
          match ps, hone with
          | [x], _ => exact ⟨x, rfl⟩
        have ha2 := k2 _ _ ha1 (refs_ne ha1 d1 hR1 f1)
        have hR2 := psRefs_kp hR1 hFu d1 k2
        have hu2 := k2 _ _ hps up
        refine ⟨_, rfl, _, rfl, _, rfl, a, _, rfl, SqL.of ha2, fun l1 l10 => ?_⟩
        rw [cutV_to (xs := us) (v := i) (by omega)]
        have s1 := same_new (o := .lst (us.take i)) l10
        refine ⟨_, rfl, u, _, _, _, rfl, rfl, SqL.of (s1 _ _ hu2), rfl, ?_⟩
        refine ⟨_, rfl, "n", _, rfl, rfl, by omega, by omega, by show 1 ≤ 1000; decide, by show 2 ≤ _; omega, fun l2 l20 => ?_⟩
        rw [Int.toNat_natCast]
        have s2 := same_new (o := .lst [.str x, .str (repS "n" n)]) l20
        refine ⟨by show 1 ≤ _; omega, fun l3 l30 => ?_⟩
        have s3 := same_new (o := .lst [.ref l2]) l30
        have e2' := s3 _ _ (s2 _ _ (s1 _ _ ha2))
        refine ⟨l1, l3, _, _, rfl, rfl, s3 _ _ (s2 _ _ upd_same), upd_same, by rw [List.length_take]; show _ + 1 ≤ _; omega, fun l4 l40 => ?_⟩
        have s4 := same_new (o := .lst (us.take i ++ [.ref l2])) l40
        refine ⟨_, rfl, _, rfl, _, _, rfl, rfl, _, rfl, a, _, rfl, SqL.of (s4 _ _ e2'), fun l5 l50 => ?_⟩
        rw [show ((i : Int) + 1) = ((i + 1 : Nat) : Int) by omega, cutV_from (xs := us) (v := i + 1) (by omega)]
        have s5 := same_new (o := .lst (us.drop (i + 1))) l50
        refine ⟨l4, l5, _, _, rfl, rfl, s5 _ _ upd_same, upd_same, by rw [List.length_append, List.length_take, List.length_drop]; show _ + 1 + _ ≤ _; omega, fun l6 l60 => ?_⟩
        have s6 := same_new (o := .lst (us.take i ++ [.ref l2] ++ us.drop (i + 1))) l60
        have S := ((((s1.trans s2).trans s3).trans s4).trans s5).trans s6
        have hl2 := s6 _ _ (s5 _ _ (s4 _ _ (s3 _ _ (upd_same (o := .lst [.str x, .str (repS "n" n)]) (a := l2)))))
        refine k _ l6 _ (Fs.take i ++ [[x, repS "n" n]] ++ Fs.drop (i + 1)) (d2.news S) upd_same ?_ (hFu.grow hf (repS_n n)) (by have := len_put (gs := [[x, repS "n" n]]) hf; simp only [List.length_singleton] at this; omega) (KP.trans (KP.trans k1 k2) (KP.of S))
        refine Refs.app (Refs.app (((hR2.take i).map fun _ _ _ r => S _ _ r)) ?_) ((hR2.drop (i + 1)).map fun _ _ _ r => S _ _ r)
        exact Refs.nil.snoc (R := PsAt) (u := l2) (x := [x, repS "n" n]) hl2
      · exact ⟨d2, k2, rfl⟩
    · refine iteN (by decide) ?_
      exact ⟨d1, fun b o e _ => e, rfl⟩
  · rintro σ' H2 ⟨d2, k2, rfl⟩
    have hps2 := k2 _ _ hps up
    refine ⟨_, rfl, _, rfl, u, _, rfl, SqL.of hps2, p, q, _, rfl, d2, hpq, by omega, fun H3 c c0 c1 d3 k3 => ?_⟩
    refine ⟨_, rfl, _, rfl, p, q, _, rfl, d3, hpq, by omega, fun H4 j j0 j1 d4 k4 => ?_⟩
    obtain ⟨c, rfl⟩ : ∃ n : Nat, c = (n : Nat) := ⟨c.toNat, by omega⟩
    obtain ⟨j, rfl⟩ : ∃ n : Nat, j = (n : Nat) := ⟨j.toNat, by omega⟩
    have K14 : KP p H1 H4 := KP.trans (KP.trans k2 k3) k4
    have ha4 := K14 _ _ ha1 (refs_ne ha1 d1 hR1 f1)
    have hR4 := psRefs_kp hR1 hFu d1 K14
    have hps4 := K14 _ _ hps up
    obtain ⟨x, hx⟩ : ∃ x, ps[c]? = some x := ⟨_, List.getElem?_eq_getElem (by omega)⟩
    have xn := pz x (List.mem_of_getElem? hx)
    have xl : x.cps.toList.length = x.length := by rw [Array.length_toList]; rfl
    have hxat : atI (ps.map V.str) (c : Int) = some (.str x) := atI_nat (by rw [List.getElem?_map, hx]; rfl)
    have hci : ixN (ps.map V.str).length (c : Int) = some c := by
      unfold ixN; rw [if_pos (by omega), if_pos (by rw [hpl]; omega)]; simp
    have jn : j < x.length := by omega
    obtain ⟨ys, hys⟩ : ∃ ys : Nat → Str, ∀ v, ys v = (cutS x none (some (j : Int)) ++ sg v) ++ cutS x (some ((j : Int) + 1)) none := ⟨_, fun _ => rfl⟩
    have yl : ∀ v, (ys v).cps.toList = x.cps.toList.set j v := fun v => by rw [hys]; exact put_l x jn
    have clen := fun (lo hi : Option Int) => cutS_length x lo hi
    refine ⟨Nat.zero_le _, fun hv hv0 => ?_⟩
    have s5 := same_new (o := .lst []) hv0
    refine ⟨by show 2 ≤ _; omega, fun sb sb0 => ?_⟩
    have s6 := same_new (o := .lst [.str "1", .str "0"]) sb0
    have hv6 := s6 _ _ (upd_same (o := .lst []) (a := hv))
    have S6 := s5.trans s6
    have svh : sb ≠ hv := fun z => by rw [z, upd_same] at sb0; cases sb0
    have nv : ∀ b o, H4 b = some o → b ≠ hv := fun b o e z => by rw [z, hv0] at e; cases e
    have hsb6 : upd (upd H4 hv (.lst [])) sb (.lst [.str "1", .str "0"]) sb = some (.lst [.str "1", .str "0"]) := upd_same
    generalize upd (upd H4 hv (.lst [])) sb (.lst [.str "1", .str "0"]) = H6 at S6 hv6 hsb6 s6 ⊢
    refine ⟨sb, rfl, ⟨_, SqL.of hsb6⟩, ?_⟩
    refine for_it (walk_list (xs := [.str "1", .str "0"])) (fun m σ H7 => Same H4 H7 ∧ H7 sb = some (.lst [.str "1", .str "0"]) ∧ (∃ hs, H7 hv = some (.lst hs) ∧ Refs H7 hs (([ps.set c (ys 49), ps.set c (ys 48)] : List (List Str)).take m) (fun H u qs => u ≠ hv ∧ PsAt H u qs)) ∧ ∃ v8 v9 : Option V, σ = [some (.ref p), some (.ref a), some (.int (n : Nat)), some (.int (i : Nat)), some (.ref u), some (.int (c : Nat)), some (.int (j : Nat)), some (.ref hv), v8, v9])
      ⟨S6, hsb6, ⟨[], hv6, Refs.nil⟩, none, none, rfl⟩ (fun m σ H7 _ ⟨_, e, _⟩ => SqL.of e) ?_ ?_
    · rintro m y σ H7 H8 hm ⟨s7, hsb7, ⟨hs, hhv, hH⟩, v8, v9, rfl⟩ ⟨rfl, hy⟩
      have hm2 : m < 2 := hm
      obtain ⟨sn, rfl, hsn⟩ : ∃ sn : Nat, y = .str (sg sn) ∧ [ps.set c (ys 49), ps.set c (ys 48)][m]? = some (ps.set c (ys sn)) := by
        have : m = 0 ∨ m = 1 := by omega
        rcases this with rfl | rfl
        · cases hy; exact ⟨49, rfl, rfl⟩
        · cases hy; exact ⟨48, rfl, rfl⟩
      have hps7 := s7 _ _ hps4
      refine ⟨_, rfl, u, _, rfl, SqL.of hps7, fun h h0 => ?_⟩
      have s8 := same_new (o := .lst (ps.map V.str)) h0
      have hh8 : upd H8 h (.lst (ps.map V.str)) h = some (.lst (ps.map V.str)) := upd_same
      have hhN : h ≠ hv := fun z => by rw [z, hhv] at h0; cases h0
      have hsbN : sb ≠ h := fun z => by rw [← z, hsb7] at h0; cases h0
      have c1' := clen none (some (j : Int))
      have c2' := clen (some ((j : Int) + 1)) none
      refine ⟨_, rfl, _, rfl, h, _, _, .str x, rfl, rfl, SqL.of hh8, hxat, _, rfl, _, rfl, x, rfl, by omega, _, rfl, cutS x none (some (j : Int)), sg sn, rfl, rfl, by show _ + 1 ≤ _; omega, ?_⟩
      refine ⟨_, rfl, _, rfl, h, _, _, .str x, rfl, rfl, SqL.of hh8, hxat, _, rfl, _, _, rfl, rfl, _, rfl, x, rfl, by omega, cutS x none (some (j : Int)) ++ sg sn, cutS x (some ((j : Int) + 1)) none, rfl, rfl, by rw [app_len]; show _ + 1 + _ ≤ _; omega, ?_⟩
      refine ⟨_, rfl, _, rfl, h, _, (c : Int), c, rfl, rfl, hh8, hci, ?_⟩
      rw [map_strs, ← hys]
      have k9 : ∀ b o, H8 b = some o → upd (upd H8 h (.lst (ps.map V.str))) h (.lst ((ps.set c (ys sn)).map V.str)) b = some o := fun b o e => by
        have : b ≠ h := fun z => by rw [z, h0] at e; cases e
        rw [upd_ne this, upd_ne this]; exact e
      have hh9 : upd (upd H8 h (.lst (ps.map V.str))) h (.lst ((ps.set c (ys sn)).map V.str)) h = some (.lst ((ps.set c (ys sn)).map V.str)) := upd_same
      generalize upd (upd H8 h (.lst (ps.map V.str))) h (.lst ((ps.set c (ys sn)).map V.str)) = H9 at k9 hh9 ⊢
      have hsl : hs.length ≤ 2 := by rw [hH.1]; exact Nat.le_trans (List.length_take_le' _ _) (Nat.le_refl 2)
      refine ⟨_, rfl, .inl ⟨rfl, _, SqL.of (k9 _ _ hhv)⟩, _, rfl, hv, _, _, rfl, rfl, k9 _ _ hhv, by omega, ?_⟩
      refine ⟨fun b o e => by rw [upd_ne (nv b o e)]; exact k9 _ _ (s7 _ _ e), by rw [upd_ne svh]; exact k9 _ _ hsb7, ⟨_, upd_same, ?_⟩, _, _, rfl⟩
      rw [List.take_succ, hsn]
      refine Refs.snoc (hH.map fun u qs _ r => ⟨r.1, ?_⟩) ⟨hhN, ?_⟩
      · show upd H9 hv _ u = _
        rw [upd_ne r.1]; exact k9 _ _ r.2
      · show upd H9 hv _ h = _
        rw [upd_ne hhN]; exact hh9
    · rintro σ H7 ⟨s7, hsb7, ⟨hs, hhv, hH⟩, v8, v9, rfl⟩
      rw [List.take_of_length_le (Nat.le_refl 2)] at hH
      obtain ⟨h1, q1, e1, hh1, _, hq1⟩ := hH.at (i := 0) (by simp)
      obtain ⟨h2, q2, e2, hh2, _, hq2⟩ := hH.at (i := 1) (by simp)
      cases e1
      cases e2
      have hps7 := s7 _ _ hps4
      have ha7 := s7 _ _ ha4
      have hR7 : Refs H7 us Fs PsAt := hR4.map fun _ _ _ r => s7 _ _ r
      have d7 := d4.news s7
      have K7 : KP p H H7 := KP.trans (KP.trans k1 K14) (KP.of s7)
      obtain ⟨l, hl, hsx⟩ := hP.at hx
      have st1 : ∀ z ∈ ps.set c (ys 49), PyData.strOk z = true := (hP.set hx (yl 49) (.inr rfl)).strs
      have st2 : ∀ z ∈ ps.set c (ys 48), PyData.strOk z = true := (hP.set hx (yl 48) (.inl rfl)).strs
      refine ⟨_, rfl, hv, _, _, _, rfl, rfl, SqL.of hhv, atI_nat (j := 0) hh1, _, rfl, ?_⟩
      refine eqStrs hq1 hps7 st1 hP.strs fun b1 nb1 => ⟨_, rfl, ?_⟩
      have back : Q (.ref a) H7 := k _ a us Fs d7 ha7 hR7 hFu (by omega) K7
      cases b1 with
      | true => exact iteP rfl ⟨_, rfl, back⟩
      | false =>
        refine iteN (by decide) ?_
        refine ⟨_, rfl, hv, _, _, _, rfl, rfl, SqL.of hhv, atI_nat (j := 1) hh2, _, rfl, ?_⟩
        refine eqStrs hq2 hps7 st2 hP.strs fun b2 nb2 => ⟨_, rfl, ?_⟩
        cases b2 with
        | true => exact iteP rfl ⟨_, rfl, back⟩
        | false =>
          refine iteN (by decide) ?_
          have hsg := List.getElem?_eq_getElem (l := x.cps.toList) (i := j) (by omega)
          generalize x.cps.toList[j]'(by omega) = sn at hsg
          have same : ∀ v, sn = v → ps.set c (ys v) = ps := fun v e => by
            have : ys v = x := str_ext (by
              rw [yl, ← e]
              refine List.ext_getElem? fun m => ?_
              rw [List.getElem?_set]
              split
              · rename_i e'
                subst e'
                rw [if_pos (by omega), hsg]
              · rfl)
            rw [this]
            refine List.ext_getElem? fun m => ?_
            rw [List.getElem?_set]
            split
            · rename_i e'
              subst e'
              rw [if_pos (by omega), hx]
            · rfl
          have n49 : ¬ sn = 49 := fun e => nb1 rfl (same 49 e)
          have n48 : ¬ sn = 48 := fun e => nb2 rfl (same 48 e)
          refine ⟨_, rfl, _, rfl, _, rfl, a, _, rfl, SqL.of ha7, fun l1 l10 => ?_⟩
          rw [cutV_to (xs := us) (v := i) (by omega)]
          have t1 := same_new (o := .lst (us.take i)) l10
          have hsl : hs.length = 2 := hH.1
          have hhv1 := t1 _ _ hhv
          have ha8 := t1 _ _ ha7
          refine ⟨_, rfl, l1, hv, _, _, rfl, rfl, upd_same, hhv1, by rw [List.length_take]; omega, fun l2 l20 => ?_⟩
          have t2 := same_new (o := .lst (us.take i ++ hs)) l20
          refine ⟨_, rfl, _, rfl, _, _, rfl, rfl, _, rfl, a, _, rfl, SqL.of (t2 _ _ ha8), fun l3 l30 => ?_⟩
          rw [show ((i : Int) + 1) = ((i + 1 : Nat) : Int) by omega, cutV_from (xs := us) (v := i + 1) (by omega)]
          have t3 := same_new (o := .lst (us.drop (i + 1))) l30
          refine ⟨l2, l3, _, _, rfl, rfl, t3 _ _ upd_same, upd_same, by rw [List.length_append, List.length_take, List.length_drop]; omega, fun l4 l40 => ?_⟩
          have t4 := same_new (o := .lst (us.take i ++ hs ++ us.drop (i + 1))) l40
          have S := ((t1.trans t2).trans t3).trans t4
          refine k _ l4 _ (Fs.take i ++ [ps.set c (ys 49), ps.set c (ys 48)] ++ Fs.drop (i + 1)) (d7.news S) upd_same ?_ (hFu.halve hf hx hsg n48 n49 (yl 49) (yl 48)) (by have := len_put (gs := [ps.set c (ys 49), ps.set c (ys 48)]) hf; simp only [List.length_cons, List.length_nil] at this; omega) (KP.trans K7 (KP.of S))
          exact Refs.app (Refs.app ((hR7.take i).map fun _ _ _ r => S _ _ r) (hH.map fun _ _ _ r => S _ _ r.2)) ((hR7.drop (i + 1)).map fun _ _ _ r => S _ _ r)
end
end My

/-! PE -/
namespace My
open PySem L2
local macro_rules | `(tactic| walk_at "side") => `(tactic| first | with_reducible rfl | assumption | rfl | decide | omega | exact cpow1 (by omega) (by omega) | exact cdiv (by omega) (by omega) | exact two_pos _ | exact SqL.of (by assumption) | exact SqT.of (by assumption) | exact TyX.base (TyOf.int _) | exact TyX.base (TyOf.bl _) | exact TyX.base TyOf.non | exact scal_opt _ _ | exact k_ii | exact k_bi | exact k_ni | exact k_ib | exact k_bb | exact TyX.base (TyOf.lst (by assumption)) | exact k_ll | exact k_lt)
local macro_rules | `(tactic| walk_at "p") => `(tactic| repeat (first | refine And.intro (by walk_at "side") ?_ | apply Exists.intro | refine iteN (by assumption) ?_ | refine iteP (by assumption) ?_ | refine iteN (by decide) ?_ | refine iteP (by decide) ?_))

def NMz : List Str := ["zoo", "b", "mid", "ab", "c", "last", "a", "x", "pair", "q"]
theorem nmz_ok : ∀ z ∈ NMz, nameOk z := by
  have : ∀ z ∈ NMz, 1 ≤ z.length ∧ z.length ≤ 8 ∧ ∀ c ∈ z.cps.toList, 97 ≤ c ∧ c ≤ 122 := by decide
  exact this
theorem nmz_nd : NMz.Nodup := by decide
def rowsOf (Fs : List (List Str)) : List FM := ((NMz.take Fs.length).zip Fs).map fun q => ⟨q.1, q.2⟩
theorem rowsOf_ps {Fs : List (List Str)} (h : Fs.length ≤ 10) : (rowsOf Fs).map FM.ps = Fs := by
  unfold rowsOf
  rw [List.map_map]
  show ((NMz.take Fs.length).zip Fs).map Prod.snd = Fs
  rw [List.map_snd_zip]
  rw [List.length_take]; show _ ≤ min _ 10; omega
theorem rowsOf_nm {Fs : List (List Str)} (h : Fs.length ≤ 10) : (rowsOf Fs).map FM.nm = NMz.take Fs.length := by
  unfold rowsOf
  rw [List.map_map]
  show ((NMz.take Fs.length).zip Fs).map Prod.fst = _
  rw [List.map_fst_zip]
  rw [List.length_take]; show min _ 10 ≤ _; omega
theorem rowsOf_len {Fs : List (List Str)} (h : Fs.length ≤ 10) : (rowsOf Fs).length = Fs.length := by
  rw [← List.length_map (as := rowsOf Fs) FM.ps, rowsOf_ps h]
theorem rowsOf_ok {n : Nat} {Fs : List (List Str)} (h : Fs.length ≤ 10) (hF : Full n Fs) (n4 : 4 ≤ n) (n8 : n ≤ 8) : BookOk n 1 (rowsOf Fs) := by
  refine ⟨n4, n8, by decide, by decide, by rw [rowsOf_len h]; exact hF.one, by rw [rowsOf_len h]; omega, ?_, fun f hf => ?_, fun f hf => ?_⟩
  · rw [rowsOf_nm h]; exact nmz_nd.sublist (List.take_sublist _ _)
  · refine nmz_ok _ (List.mem_of_mem_take (i := Fs.length) ?_)
    rw [← rowsOf_nm h]; exact List.mem_map_of_mem hf
  · refine (hF.pat f.ps ?_).ok
    have := List.mem_map_of_mem (f := FM.ps) hf
    rw [rowsOf_ps h] at this
    exact this
theorem rowsOf_apart {n : Nat} {Fs : List (List Str)} (h : Fs.length ≤ 10) (hF : Full n Fs) : (rowsOf Fs).Pairwise (fun g f => clashB f.pl g.pl = false) := by
  have := hF.apart
  rw [← rowsOf_ps h, List.pairwise_map] at this
  exact this.imp fun e => ap_comm e
theorem rowsOf_all {n : Nat} {Fs : List (List Str)} (h : Fs.length ≤ 10) (hF : Full n Fs) : wts n (rowsOf Fs) = 2 ^ (3 * n) := by
  have := hF.all
  conv at this => lhs; rw [← rowsOf_ps h, List.map_map]
  exact this
section
variable {P : Program} {w : World} {K : PySem.W.Frag} {mg : Str → Option Value} {base : Heap}
def sp_law_full_rows (_ : Txt K mg) : Sp := fun vs H Q _ => ∃ (p q : Addr) (n : Nat), vs = [.ref p, .int (n : Nat)] ∧ Dr H p q ∧ p ≠ q ∧ 4 ≤ n ∧ n ≤ 8 ∧
  ∀ H' l F, Dr H' p q → KP p H H' → RowsAt H' l F → BookOk n 1 F → F.Pairwise (fun g f => clashB f.pl g.pl = false) → wts n F = 2 ^ (3 * n) → Q (.ref l) H'
theorem sp_law_full_rows_len {T : Txt K mg} {vs H Q E} (h : sp_law_full_rows T vs H Q E) : vs.length = 2 := by obtain ⟨_, _, _, rfl, _⟩ := h; rfl
theorem ok_law_full_rows (T : Txt K mg) : FnOk P w K mg base CX0 3 T.f_law_full_rows T.fd_law_full_rows ["_law_draws_here", "_law_word"] (sp_law_full_rows T) := by
  have G_law_split := ok_law_split (P := P) (w := w) (base := base) T; have G_law_take := ok_law_take (P := P) (w := w) (base := base) T
  refine T.F_law_full_rows.ok sc_law_full_rows (fun vs H Q E h => sp_law_full_rows_len h) (fun cdv A outer s H vs Q E hr h => ?_)
  obtain ⟨p, q, n, rfl, hd, hpq, n4, n8, k⟩ := h
  refine ⟨_, (pss_cons (ps_set (i := 2) sc_law_full_rows.nd rfl (Or.inl rfl) (pe_lst (pa_cons (pe_lst (pa_cons (pe_op op_rep_str pe_str (pv 1)) pa_nil)) pa_nil)))
       (pss_cons (ps_for PassesOwn.never rfl (pi_range1 (by rfl) T.n_range (pa_cons (pe_call G_law_take (hr.mono (by decide)) rfl T.g_law_take T.F_law_take.kp T.b_law_take .nil pass0 (pa_cons (pv 0) (pa_cons pe_int pa_nil))) pa_nil)) (pg_name (i := 3) sc_law_full_rows.nd rfl (Or.inl rfl))
        (pss_one (ps_set (i := 2) sc_law_full_rows.nd rfl (Or.inl rfl) (pe_call G_law_split hr rfl T.g_law_split T.F_law_split.kp T.b_law_split .nil pass0 (pa_cons (pv 0) (pa_cons (pv 2) (pa_cons (pv 1) pa_nil)))))))
       (pss_cons (ps_set (i := 4) sc_law_full_rows.nd rfl (Or.inl rfl) (pe_lst (pa_cons pe_str (pa_cons pe_str (pa_cons pe_str (pa_cons pe_str (pa_cons pe_str (pa_cons pe_str (pa_cons pe_str (pa_cons pe_str (pa_cons pe_str (pa_cons pe_str pa_nil))))))))))))
       (pss_cons (ps_set (i := 5) sc_law_full_rows.nd rfl (Or.inl rfl) (pe_lst pa_nil))
       (pss_cons (ps_for PassesOwn.never rfl (pi_range1 (by rfl) T.n_range (pa_cons (pe_callB call_lenL (by rfl) T.n_len (by decide +kernel) (pa_cons (pv 2) pa_nil)) pa_nil)) (pg_name (i := 6) sc_law_full_rows.nd rfl (Or.inl rfl))
        (pss_one (ps_expr (pe_bm PySem.F.plainAttrs_list PySem.F.slot_list_append PySem.F.type_list_append mt_append (pv 5) (pa_cons (pe_tup (pa_cons (pe_ix ix_list (pv 4) (pv 6) (fun _ _ => rfl)) (pa_cons (pe_ix ix_list (pv 2) (pv 6) (fun _ _ => rfl)) (pa_cons (pe_lst pa_nil) pa_nil)))) pa_nil)))))
       (pss_one (ps_ret (pv 5)))))))), ?_⟩
  have sz : sizeLine = 16777216 := sizeLine_eq
  refine ⟨_, rfl, "m", _, rfl, rfl, by omega, by omega, by show 1 ≤ 1000; decide, by show 1 ≤ _; omega, fun l1 l10 => ?_⟩
  rw [Int.toNat_natCast]
  have s1 := same_new (o := .lst [.str (repS "m" n)]) l10
  refine ⟨by show 1 ≤ _; omega, fun l2 l20 => ?_⟩
  have s2 := s1.trans (same_new (o := .lst [.ref l1]) l20)
  have h12 := same_new (o := .lst [.ref l1]) l20 _ _ (upd_same (o := .lst [.str (repS "m" n)]) (a := l1))
  have hl2 : upd (upd H l1 (.lst [.str (repS "m" n)])) l2 (.lst [.ref l1]) l2 = some (.lst [.ref l1]) := upd_same
  generalize upd (upd H l1 (.lst [.str (repS "m" n)])) l2 (.lst [.ref l1]) = H2 at s2 h12 hl2 ⊢
  have hR2 : Refs H2 [.ref l1] [[repS "m" n]] PsAt := Refs.nil.snoc (R := PsAt) (u := l1) (x := [repS "m" n]) h12
  have d2 := hd.news s2
  refine ⟨_, rfl, p, q, _, rfl, d2, hpq, by decide, fun H3 v v0 v1 d3 k3 => ?_⟩
  have hF0 := full_first (repS_m n)
  refine ⟨_, rfl, by omega, by omega, ?_⟩
  refine for_range (lo := 0) (n := v.toNat) (fun i σ H4 => Dr H4 p q ∧ KP p H H4 ∧ ∃ (l : Addr) (us : List V) (Fs : List (List Str)), H4 l = some (.lst us) ∧ Refs H4 us Fs PsAt ∧ Full n Fs ∧ Fs.length ≤ i + 1 ∧ ∃ v3 v4 v5 v6 : Option V, σ = [some (.ref p), some (.int (n : Nat)), some (.ref l), v3, v4, v5, v6])
    ⟨d3, KP.trans (KP.of s2) k3, l2, _, _, k3 _ _ hl2 (refs_ne hl2 d2 hR2 (by simp)), psRefs_kp hR2 hF0 d2 k3, hF0, Nat.le_refl _, none, none, none, none, rfl⟩ ?_ ?_
  · rintro i σ H4 hi ⟨d4, k4, l, us, Fs, hl, hR, hF, hlen, v3, v4, v5, v6, rfl⟩
    refine ⟨_, rfl, _, rfl, _, rfl, p, q, l, us, Fs, n, rfl, d4, hpq, hl, hR, hF, n4, n8, by omega, fun H5 l' us' Fs' d5 hl' hR' hF' hlen' k5 => ?_⟩
    exact ⟨d5, KP.trans k4 k5, l', us', Fs', hl', hR', hF', by omega, _, _, _, _, rfl⟩
  · rintro σ H4 ⟨d4, k4, lf, us, Fs, hlf, hR, hF, hlen, v3, v4, v5, v6, rfl⟩
    have h10 : Fs.length ≤ 10 := by omega
    have hul := hR.1
    refine ⟨by show 10 ≤ _; omega, fun nb nb0 => ?_⟩
    rw [show ([.str "zoo", .str "b", .str "mid", .str "ab", .str "c", .str "last", .str "a", .str "x", .str "pair", .str "q"] : List V) = NMz.map V.str from rfl]
    have s5 := same_new (o := .lst (NMz.map V.str)) nb0
    refine ⟨Nat.zero_le _, fun l l0 => ?_⟩
    have s6 := s5.trans (same_new (o := .lst []) l0)
    have hnb := same_new (o := .lst []) l0 _ _ (upd_same (o := .lst (NMz.map V.str)) (a := nb))
    have hll : upd (upd H4 nb (.lst (NMz.map V.str))) l (.lst []) l = some (.lst []) := upd_same
    have lN : H4 l = none := s5.free l0
    have nl : ∀ b o, H4 b = some o → b ≠ l := fun b o e z => by rw [z, lN] at e; cases e
    have nbl : nb ≠ l := fun z => by rw [← z, upd_same] at l0; cases l0
    generalize upd (upd H4 nb (.lst (NMz.map V.str))) l (.lst []) = H6 at s6 hnb hll ⊢
    refine ⟨_, rfl, lf, _, rfl, SqL.of (s6 _ _ hlf), _, rfl, by omega, by omega, ?_⟩
    refine for_range (lo := 0) (n := ((us.length : Nat) : Int).toNat) (fun i σ H7 => Same H4 H7 ∧ H7 nb = some (.lst (NMz.map V.str)) ∧ (∃ ts, H7 l = some (.lst ts) ∧ Refs H7 ts ((rowsOf Fs).take i) (RowQ l l)) ∧ ∃ v3 v6 : Option V, σ = [some (.ref p), some (.int (n : Nat)), some (.ref lf), v3, some (.ref nb), some (.ref l), v6])
      ⟨s6, hnb, ⟨[], hll, Refs.nil⟩, _, _, rfl⟩ ?_ ?_
    · rintro i σ H7 hi ⟨s7, hnb7, ⟨ts, hl7, hT⟩, v3, v6, rfl⟩
      rw [Int.toNat_natCast] at hi
      obtain ⟨pa, ps, hps, hu, hpa⟩ := hR.at (i := i) (by omega)
      have hpa7 := s7 _ _ hpa
      have pal := nl _ _ hpa
      have hnm := List.getElem?_eq_getElem (l := NMz) (i := i) (by show i < 10; omega)
      generalize NMz[i]'(by show i < 10; omega) = nm at hnm
      have ei : (0 + (i : Int)) = (i : Int) := by omega
      have hnat : atI (NMz.map V.str) (0 + (i : Int)) = some (.str nm) := by rw [ei]; exact atI_nat (by rw [List.getElem?_map, hnm]; rfl)
      have hfat : atI us (0 + (i : Int)) = some (.ref pa) := by rw [ei]; exact atI_nat hu
      have hrow : (rowsOf Fs)[i]? = some ⟨nm, ps⟩ := by
        unfold rowsOf
        rw [List.getElem?_map, List.getElem?_zip_eq_some (z := (nm, ps)) |>.mpr ⟨by rw [List.getElem?_take, if_pos (by omega)]; exact hnm, hps⟩]; rfl
      have htl : ts.length ≤ 10 := by rw [hT.1]; exact Nat.le_trans (List.length_take_le' _ _) (by rw [rowsOf_len h10]; exact h10)
      refine ⟨_, rfl, .inl ⟨rfl, _, SqL.of hl7⟩, _, rfl, _, rfl, nb, _, _, _, rfl, rfl, SqL.of hnb7, hnat, _, rfl, _, rfl, lf, _, _, _, rfl, rfl, SqL.of (s7 _ _ hlf), hfat, Nat.zero_le _, fun la la0 => ?_⟩
      have t1 := same_new (o := .lst []) la0
      have lal : la ≠ l := fun z => by rw [z, hl7] at la0; cases la0
      refine ⟨by show 3 ≤ _; omega, fun t t0 => ?_⟩
      have t2 := same_new (o := .tup [.str nm, .ref pa, .ref la]) t0
      have tl : t ≠ l := fun z => by rw [z, t1 _ _ hl7] at t0; cases t0
      have hl9 := t2 _ _ (t1 _ _ hl7)
      have T2 := t1.trans t2
      refine ⟨l, ts, _, rfl, rfl, hl9, by omega, ?_⟩
      refine ⟨fun b o e => by rw [upd_ne (nl b o e)]; exact T2 _ _ (s7 _ _ e), by rw [upd_ne nbl]; exact T2 _ _ hnb7, ⟨_, upd_same, ?_⟩, _, _, rfl⟩
      rw [List.take_succ, hrow]
      refine Refs.snoc (hT.map fun u f _ r => r.keep fun b o e hb _ => by rw [upd_ne hb]; exact T2 _ _ e) ⟨tl, tl, pa, la, pal, pal, lal, lal, ?_, ?_, ?_⟩
      · rw [upd_ne tl, upd_same]
      · rw [upd_ne pal]; exact T2 _ _ hpa7
      · rw [upd_ne lal]; exact t2 _ _ upd_same
    · rintro σ H7 ⟨s7, hnb7, ⟨ts, hl7, hT⟩, v3, v6, rfl⟩
      rw [List.take_of_length_le (by rw [rowsOf_len h10, Int.toNat_natCast]; omega)] at hT
      exact ⟨_, rfl, k _ l (rowsOf Fs) (d4.news s7) (KP.trans k4 (KP.of s7)) ⟨ts, hl7, hT.map fun _ _ _ r => r.row⟩ (rowsOf_ok h10 hF n4 n8) (rowsOf_apart h10 hF) (rowsOf_all h10 hF)⟩
end
end My

/-! LP -/
namespace My
open PySem L2
local macro_rules | `(tactic| walk_at "side") => `(tactic| first | with_reducible rfl | assumption | rfl | decide | omega | exact cpow1 (by omega) (by omega) | exact cdiv (by omega) (by omega) | exact two_pos _ | exact SqL.of (by assumption) | exact SqT.of (by assumption) | exact TyX.base (TyOf.int _) | exact TyX.base (TyOf.bl _) | exact TyX.base TyOf.non | exact scal_opt _ _ | exact k_ii | exact k_bi | exact k_ni | exact k_ib | exact k_bb | exact TyX.base (TyOf.lst (by assumption)) | exact k_ll | exact k_lt)
local macro_rules | `(tactic| walk_at "p") => `(tactic| repeat (first | refine And.intro (by walk_at "side") ?_ | apply Exists.intro | refine iteN (by assumption) ?_ | refine iteP (by assumption) ?_ | refine iteN (by decide) ?_ | refine iteP (by decide) ?_))

theorem BookOk.up {n r : Nat} {F : List FM} (h : BookOk n r F) : BookOk n 4 F :=
  ⟨h.n4, h.n8, by decide, Nat.le_refl _, h.f1, h.f32, h.nd, h.nm, fun f hf => by
    have hp := h.ps f hf
    have r4 := h.r4
    exact ⟨hp.l1, hp.l3, hp.pat, fun q hq => ⟨(hp.bits q hq).1, fun hr => Nat.le_trans ((hp.bits q hq).2 hr) r4⟩⟩⟩
theorem wts_sub {n : Nat} {F : List FM} {i : Nat} (hi : i < F.length) : wts n (F.take i ++ F.drop (i + 1)) < wts n F := by
  have e : F = F.take i ++ F[i] :: F.drop (i + 1) := by
    rw [← List.drop_eq_getElem_cons hi, List.take_append_drop]
  unfold wts
  conv => rhs; rw [e]
  rw [List.map_append, List.map_append, List.sum_append, List.sum_append, List.map_cons, List.sum_cons]
  have : 0 < wt n F[i].pl := Nat.two_pow_pos _
  omega
theorem three3 (x y z : Int) (v : Int) (v0 : 0 ≤ v) (v1 : v < 3) : ∃ e, atI ([.int x, .int y, .int z] : List V) v = some (.int e) ∧ (e = x ∨ e = y ∨ e = z) := by
  have : v = 0 ∨ v = 1 ∨ v = 2 := by omega
  rcases this with rfl | rfl | rfl
  · exact ⟨x, rfl, .inl rfl⟩
  · exact ⟨y, rfl, .inr (.inl rfl)⟩
  · exact ⟨z, rfl, .inr (.inr rfl)⟩
theorem four4 (x y z t : Int) (v : Int) (v0 : 0 ≤ v) (v1 : v < 4) : ∃ e, atI ([.int x, .int y, .int z, .int t] : List V) v = some (.int e) ∧ (e = x ∨ e = y ∨ e = z ∨ e = t) := by
  have : v = 0 ∨ v = 1 ∨ v = 2 ∨ v = 3 := by omega
  rcases this with rfl | rfl | rfl | rfl
  · exact ⟨x, rfl, .inl rfl⟩
  · exact ⟨y, rfl, .inr (.inl rfl)⟩
  · exact ⟨z, rfl, .inr (.inr (.inl rfl))⟩
  · exact ⟨t, rfl, .inr (.inr (.inr rfl))⟩
section
variable {P : Program} {w : World} {K : PySem.W.Frag} {mg : Str → Option Value} {base : Heap}
def sp_law (_ : Txt K mg) : Sp := fun vs H Q _ => ∃ (a : Addr) (xs : List Int), vs = [.ref a] ∧ SqL K H a (xs.map V.int) ∧ xs.length ≤ 63 ∧ ∀ H', Q (.bl true) H'
theorem sp_law_len {T : Txt K mg} {vs H Q E} (h : sp_law T vs H Q E) : vs.length = 1 := by obtain ⟨_, _, rfl, _⟩ := h; rfl
theorem ok_law (T : Txt K mg) : FnOk P w K mg base CX0 7 T.f_law T.fd_law ["_law_script"] (sp_law T) := by
  have G_Book_init := ok_Book_init (P := P) (w := w) (base := base) T; have G_law_apart := ok_law_apart (P := P) (w := w) (base := base) T; have G_law_counted := ok_law_counted (P := P) (w := w) (base := base) T; have G_law_draws := ok_law_draws (P := P) (w := w) (base := base) T; have G_law_form_rows := ok_law_form_rows (P := P) (w := w) (base := base) T; have G_law_free := ok_law_free (P := P) (w := w) (base := base) T; have G_law_full_rows := ok_law_full_rows (P := P) (w := w) (base := base) T; have G_law_is_count := ok_law_is_count (P := P) (w := w) (base := base) T; have G_law_take := ok_law_take (P := P) (w := w) (base := base) T
  refine T.F_law.ok sc_law (fun vs H Q E h => sp_law_len h) (fun cdv A outer s H vs Q E hr h => ?_)
  obtain ⟨a, xs, rfl, hx, h63, k⟩ := h
  refine ⟨_, (pss_cons (ps_set (i := 1) sc_law.nd rfl (Or.inl rfl) (pe_call G_law_draws (hr.mono (by decide)) rfl T.g_law_draws T.F_law_draws.kp T.b_law_draws .nil pass0 (pa_cons (pv 0) pa_nil)))
       (pss_cons (ps_if (pt_cmpR op_eq (pe_call G_law_take (hr.mono (by decide)) rfl T.g_law_take T.F_law_take.kp T.b_law_take .nil pass0 (pa_cons (pv 1) (pa_cons pe_int pa_nil))) pe_int (nomark _))
        (pss_cons (ps_set (i := 2) sc_law.nd rfl (Or.inl rfl) (pe_call G_law_apart (hr.mono (by decide)) rfl T.g_law_apart T.F_law_apart.kp T.b_law_apart .nil pass0 (pa_cons (pe_call G_law_form_rows (hr.mono (by decide)) rfl T.g_law_form_rows T.F_law_form_rows.kp T.b_law_form_rows .nil pass0 (pa_cons (pv 1) (pa_cons pe_int (pa_cons (pe_ix ix_list (pe_lst (pa_cons pe_int (pa_cons pe_int (pa_cons pe_int pa_nil)))) (pe_call G_law_take (hr.mono (by decide)) rfl T.g_law_take T.F_law_take.kp T.b_law_take .nil pass0 (pa_cons (pv 1) (pa_cons pe_int pa_nil))) (fun _ _ => rfl)) (pa_cons (pe_op op_add pe_int (pe_call G_law_take (hr.mono (by decide)) rfl T.g_law_take T.F_law_take.kp T.b_law_take .nil pass0 (pa_cons (pv 1) (pa_cons pe_int pa_nil)))) pa_nil))))) pa_nil)))
       (pss_cons (ps_set (i := 3) sc_law.nd rfl (Or.inl rfl) (pe_make T.M_Book G_Book_init hr rfl T.g_Book T.b_Book_init .nil pass0 (pa_cons pe_int (pa_cons pe_int (pa_cons (pv 2) pa_nil)))))
       (pss_cons (ps_set (i := 4) sc_law.nd rfl (Or.inl rfl) (pe_call G_law_is_count (hr.mono (by decide)) rfl T.g_law_is_count T.F_law_is_count.kp T.b_law_is_count .nil pass0 (pa_cons (pv 3) (pa_cons (pv 2) (pa_cons pe_int pa_nil)))))
       (pss_cons (ps_setLc (i := 5) (own := [("_law_row", 10)]) rfl sc_law.nd rfl rfl (sw_true rfl rfl rfl (by decide +kernel)) (pi_list (pv 2)) (blkOk_by (N := ["_law_script", "_law_draws_here", "_law_rows", "_law_book", "_law_due", "_law_long", "_law_word", "_law_at", "_law_less", "_law_left", "_law_row"]) (sc := defScope s_law) (by decide +kernel)) (fun _ _ _ _ _ => by (apply pg_tr; exact pg_name (i := 10) sc_law.nd rfl (Or.inl rfl); (try dsimp only [Cx.blk]) <;> exact rfl)) (fun _ _ _ _ _ => by (apply pts_tr; exact (pts_one (PW.pt (pw_and (pt_cmpR op_eq (pe_callB call_lenL (by rfl) T.n_len (by decide +kernel) (pa_cons (pe_ix ix_tup (pv 10) pe_int (fun _ _ => rfl)) pa_nil)) pe_int (nomark _)) (pw_and1 (pt_cmpR op_gt (pe_call G_law_free (hr.mono (by decide)) rfl T.g_law_free T.F_law_free.kp T.b_law_free .nil pass0 (pa_cons (pe_slice sl_list (pe_ix ix_tup (pv 10) pe_int (fun _ _ => rfl)) po_none (po_some pe_int)) pa_nil)) pe_int (nomark _)))))); (try dsimp only [Cx.blk]) <;> exact rfl)) (fun _ _ _ _ _ => by (apply pe_tr; exact (pv 10); (try dsimp only [Cx.blk]) <;> exact rfl)))
       (pss_one (ps_ret (pe_and (pe_cmpR op_notN (pv 4) pe_non (nomark _)) (pe_one (pe_or (pe_cmpR op_gt (pe_callB call_lenL (by rfl) T.n_len (by decide +kernel) (pa_cons (pv 5) pa_nil)) pe_int (nomark _)) (pe_one (pe_cmpR (op_eqD hr.units) (pv 4) (pe_call G_law_counted (hr.mono (by decide)) rfl T.g_law_counted T.F_law_counted.kp T.b_law_counted .nil pass0 (pa_cons (pv 2) (pa_cons pe_int pa_nil))) (nomark _))))))))))))
        pss_nil)
       (pss_cons (ps_set (i := 6) sc_law.nd rfl (Or.inl rfl) (pe_ix ix_list (pe_lst (pa_cons pe_int (pa_cons pe_int (pa_cons pe_int (pa_cons pe_int pa_nil))))) (pe_call G_law_take (hr.mono (by decide)) rfl T.g_law_take T.F_law_take.kp T.b_law_take .nil pass0 (pa_cons (pv 1) (pa_cons pe_int pa_nil))) (fun _ _ => rfl)))
       (pss_cons (ps_set (i := 2) sc_law.nd rfl (Or.inl rfl) (pe_call G_law_full_rows (hr.mono (by decide)) rfl T.g_law_full_rows T.F_law_full_rows.kp T.b_law_full_rows .nil pass0 (pa_cons (pv 1) (pa_cons (pv 6) pa_nil))))
       (pss_cons (ps_set (i := 4) sc_law.nd rfl (Or.inl rfl) (pe_call G_law_is_count (hr.mono (by decide)) rfl T.g_law_is_count T.F_law_is_count.kp T.b_law_is_count .nil pass0 (pa_cons (pe_make T.M_Book G_Book_init hr rfl T.g_Book T.b_Book_init .nil pass0 (pa_cons (pv 6) (pa_cons pe_int (pa_cons (pv 2) pa_nil)))) (pa_cons (pv 2) (pa_cons (pv 6) pa_nil)))))
       (pss_cons (ps_if (PW.pt (pw_or (pt_cmpR op_isN (pv 4) pe_non (nomark _)) (pw_or1 (pt_cmpR (op_neD hr.units) (pv 4) (pe_op op_shl pe_int (pe_op op_mul pe_int (pv 6))) (nomark _)))))
        (pss_one (ps_ret pe_bl))
        pss_nil)
       (Evl.pss_cut (ps_if (PW.pt (pw_and (pt_cmpR op_eq (pv 6) pe_int (nomark _)) (pw_and1 (pt_cmpR (op_neD hr.units) (pe_call G_law_counted (hr.mono (by decide)) rfl T.g_law_counted T.F_law_counted.kp T.b_law_counted .nil pass0 (pa_cons (pv 2) (pa_cons pe_int pa_nil))) (pv 4) (nomark _)))))
        (pss_one (ps_ret pe_bl))
        pss_nil)
       (pss_cons (ps_if (pt_cmpR op_eq (pe_callB call_lenL (by rfl) T.n_len (by decide +kernel) (pa_cons (pv 2) pa_nil)) pe_int (nomark _))
        (pss_one (ps_ret pe_bl))
        pss_nil)
       (pss_cons (ps_set (i := 7) sc_law.nd rfl (Or.inl rfl) (pe_call G_law_take (hr.mono (by decide)) rfl T.g_law_take T.F_law_take.kp T.b_law_take .nil pass0 (pa_cons (pv 1) (pa_cons (pe_callB call_lenL (by rfl) T.n_len (by decide +kernel) (pa_cons (pv 2) pa_nil)) pa_nil))))
       (pss_cons (ps_set (i := 8) sc_law.nd rfl (Or.inl rfl) (pe_op op_cat (pe_slice sl_list (pv 2) po_none (po_some (pv 7))) (pe_slice sl_list (pv 2) (po_some (pe_op op_add (pv 7) pe_int)) po_none)))
       (pss_cons (ps_set (i := 9) sc_law.nd rfl (Or.inl rfl) (pe_call G_law_is_count (hr.mono (by decide)) rfl T.g_law_is_count T.F_law_is_count.kp T.b_law_is_count .nil pass0 (pa_cons (pe_make T.M_Book G_Book_init hr rfl T.g_Book T.b_Book_init .nil pass0 (pa_cons (pv 6) (pa_cons pe_int (pa_cons (pv 8) pa_nil)))) (pa_cons (pv 8) (pa_cons (pv 6) pa_nil)))))
       (pss_one (ps_ret (pe_and (pe_cmpR op_notN (pv 9) pe_non (nomark _)) (pe_one (pe_cmpR op_lt (pv 9) (pv 4) (nomark _))))))))))))))))), ?_⟩
  have sz : sizeLine = 16777216 := sizeLine_eq
  refine ⟨_, rfl, a, xs, rfl, hx, h63, fun H1 p q s1 p0 q0 hpq d1 => ?_⟩
  have newp : ∀ (H : Hp) (l : Addr), Dr H p q → H l = none → l ≠ p := fun H l d l0 z => by obtain ⟨_, e⟩ := d.lst; rw [z, e] at l0; cases l0
  refine ⟨_, rfl, p, q, _, rfl, d1, hpq, by decide, fun H2 v v0 v1 d2 k2 => ⟨rfl, _, rfl, iteB (fun e => ?_) fun e => ?_⟩⟩
  · refine ⟨_, rfl, by show 3 ≤ _; omega, fun l2 l20 => ?_⟩
    refine ⟨_, rfl, p, q, _, rfl, d2.news (same_new l20), hpq, by decide, fun H3 u u0 u1 d3 k3 => ?_⟩
    obtain ⟨r', hr2, hr3⟩ := three3 2 4 1 u u0 u1
    refine ⟨l2, _, u, _, rfl, rfl, SqL.of (k3 _ _ upd_same (newp _ _ d2 l20)), hr2, ?_⟩
    obtain ⟨r, rfl⟩ : ∃ r : Nat, r' = (r : Nat) := ⟨r'.toNat, by omega⟩
    have r3 : r = 1 ∨ r = 2 ∨ r = 4 := by omega
    refine ⟨_, rfl, p, q, _, rfl, d3, hpq, by decide, fun H5 m m0 m1 d5 k5 => ⟨_, _, rfl, rfl, ?_⟩⟩
    refine ⟨p, q, 4, r, (1 + m).toNat, ?_, d5, hpq, by decide, by decide, r3, by omega, by omega, fun H6 lr F d6 k6 lr0 hrow hBk hFl => ?_⟩
    · rw [Int.toNat_of_nonneg (by omega)]; rfl
    have hrows : RowsAt H6 lr F := by
      obtain ⟨ts, e1, e2⟩ := hrow
      exact ⟨ts, e1, e2.map fun u f _ h => h.row⟩
    refine ⟨lr, F, 4, rfl, hrows, hBk.forms, fun H7 l7 G s7 hG hsub hpw h1 => ?_⟩
    have hBG := (hBk.sub hsub (h1 hBk.f1)).up
    have hG' := hG
    obtain ⟨ts, hts, hR⟩ := hG
    refine ⟨_, rfl, fun pb db pb0 db0 pne => ?_⟩
    have sb : Same H7 (upd (upd H7 db (.own pb)) pb (.ins T.C_Book db [])) := (same_new db0).trans (same_new (by rw [upd_ne (Ne.symm pne)]; exact pb0))
    refine ⟨pb, db, l7, ts, G, 4, 4, rfl, upd_same, sb _ _ hts, hR.map fun u f _ h => h.news sb, hBG, fun H8 k8 hBook => ⟨rfl, ?_⟩⟩
    have s8 : Same H7 H8 := fun b' o e => k8 _ _ (sb _ _ e) fun z => by rw [z, pb0] at e; cases e
    have rows8 := hG'.news s8
    refine ⟨_, rfl, _, rfl, pb, l7, G, 4, 4, rfl, hBook, rows8, hBG.forms, fun H9 s9 => ?_⟩
    have rows9 := rows8.news s9
    obtain ⟨ts9, hts9, hR9⟩ := rows9
    have htl9 := hR9.1
    have g32 := hBG.f32
    refine ⟨_, rfl, l7, rfl, ⟨_, SqL.of hts9⟩, fun D hD => ?_⟩
    have nD : ∀ b o, H9 b = some o → b ≠ D := fun b o e z => by rw [z, hD] at e; cases e
    refine lc_it (walk_list (xs := ts9)) (fun i H10 => Same H9 H10 ∧ ∃ ls, H10 D = some (.lst ls) ∧ ls.length ≤ i) ⟨same_new hD, [], upd_same, Nat.le_refl _⟩ (fun i H10 _ ⟨s10, _⟩ => SqL.of (s10 _ _ hts9)) ?_ ?_
    · rintro i x H10 H11 hi ⟨s10, ls, hD10, hls⟩ ⟨rfl, hx⟩
      obtain ⟨t, f, hf, hu, hr⟩ := hR9.at (i := i) (by omega)
      rw [hu] at hx
      cases hx
      obtain ⟨pa, la, ht, hpa, hla⟩ := hr.news s10
      have mapl : (f.ps.map V.str).length = f.ps.length := List.length_map _
      have skip : Same H9 H11 ∧ ∃ ls, H11 D = some (.lst ls) ∧ ls.length ≤ i + 1 := ⟨s10, ls, hD10, by omega⟩
      refine ⟨rfl, _, rfl, t, _, _, _, rfl, rfl, SqT.of ht, rfl, pa, _, rfl, SqL.of hpa, rfl, _, rfl, iteB (fun e => ?_) fun e => ?_⟩
      · have hp3 : ((f.ps.map V.str).length : Int) = 3 := V.int.inj (of_decide_eq_true e)
        refine ⟨_, rfl, t, _, _, _, rfl, rfl, SqT.of ht, rfl, _, rfl, pa, _, rfl, SqL.of hpa, fun lc lc0 => ?_⟩
        rw [show cutV (f.ps.map V.str) none (some 2) = (f.ps.take 2).map V.str by rw [show (2 : Int) = ((2 : Nat) : Int) from rfl, cutV_to (by omega), List.map_take]]
        have s12 := same_new (o := .lst ((f.ps.take 2).map V.str)) lc0
        refine ⟨lc, f.ps.take 2, rfl, upd_same, _, _, rfl, rfl, _, rfl, iteB (fun e2 => ?_) fun e2 => ?_⟩
        · refine ⟨_, rfl, _, s12 _ _ hD10, by omega, fun b o e => by rw [upd_ne (nD b o e)]; exact s12 _ _ (s10 _ _ e), _, upd_same, by simp; omega⟩
        · exact ⟨s10.trans s12, ls, s12 _ _ hD10, by omega⟩
      · exact iteN (by decide) skip
    · rintro H10 ⟨s10, ls, hD10, hls⟩
      refine ⟨_, rfl, rfl, _, rfl, iteP rfl ?_⟩
      refine ⟨_, rfl, D, ls, rfl, SqL.of hD10, _, _, rfl, rfl, _, rfl, ?_⟩
      cases hc : decide ((0 : Int) < (ls.length : Nat)) with
      | true => exact iteP rfl (k _)
      | false =>
        refine iteN (by decide) ?_
        refine ⟨_, rfl, _, rfl, l7, G, 4, rfl, (show RowsAt H9 l7 G from ⟨ts9, hts9, hR9⟩).news s10, hBG.forms, fun H11 s11 => ?_⟩
        rw [counted hBG.forms hpw]
        exact eqIn (k _)
  · refine ⟨by show 4 ≤ _; omega, fun l2 l20 => ?_⟩
    refine ⟨_, rfl, p, q, _, rfl, d2.news (same_new l20), hpq, by decide, fun H3 u u0 u1 d3 k3 => ?_⟩
    obtain ⟨n', hn, hn4⟩ := four4 4 5 8 6 u u0 u1
    refine ⟨l2, _, u, _, rfl, rfl, SqL.of (k3 _ _ upd_same (newp _ _ d2 l20)), hn, ?_⟩
    obtain ⟨n, rfl⟩ : ∃ n : Nat, n' = (n : Nat) := ⟨n'.toNat, by omega⟩
    have n4 : 4 ≤ n := by omega
    have n8 : n ≤ 8 := by omega
    refine ⟨_, rfl, _, rfl, p, q, n, rfl, d3, hpq, n4, n8, fun H4 lr F d4 k4 hrows hB hpw hall => ?_⟩
    have hrows' := hrows
    obtain ⟨ts, hts, hR⟩ := hrows
    have htl := hR.1
    have f32 := hB.f32
    refine ⟨_, rfl, _, rfl, fun pb db pb0 db0 pne => ?_⟩
    have sb : Same H4 (upd (upd H4 db (.own pb)) pb (.ins T.C_Book db [])) := (same_new db0).trans (same_new (by rw [upd_ne (Ne.symm pne)]; exact pb0))
    refine ⟨pb, db, lr, ts, F, n, 1, rfl, upd_same, sb _ _ hts, hR.map fun u f _ h => h.news sb, hB, fun H5 k5 hBook => ⟨rfl, ?_⟩⟩
    have s5 : Same H4 H5 := fun b' o e => k5 _ _ (sb _ _ e) fun z => by rw [z, pb0] at e; cases e
    refine ⟨_, rfl, _, rfl, pb, lr, F, n, 1, rfl, hBook, hrows'.news s5, hB.forms, fun H6 s6 => ?_⟩
    have S6 := s5.trans s6
    rw [hall]
    refine ⟨_, rfl, rfl, _, rfl, iteN (by intro z; cases z) ?_⟩
    have mul3n : CMul 3 (n : Int) := mul3 n8
    refine ⟨_, rfl, _, rfl, _, _, rfl, rfl, mul3n, _, _, rfl, rfl, cpow1 (by omega) (by omega), ?_⟩
    dsimp only
    rw [shl_all]
    refine neI ⟨_, rfl, iteN (by decide) ?_⟩
    refine ⟨fun σ' H' => Same H4 H' ∧ σ' = [some (.ref a), some (.ref p), some (.ref lr), none, some (.int ((2 ^ (3 * n) : Nat) : Int)), none, some (.int (n : Nat)), none, none, none, none], ?_, ?_⟩
    · refine ⟨_, rfl, rfl, _, rfl, iteB (fun e => ?_) fun e => ?_⟩
      · have e4 : n = 4 := Int.ofNat.inj (V.int.inj (of_decide_eq_true e))
        subst e4
        refine ⟨_, rfl, lr, F, 4, rfl, hrows'.news S6, hB.forms, fun H7 s7 => ?_⟩
        rw [counted hB.forms hpw, hall]
        refine ⟨_, rfl, neI ⟨_, rfl, iteN (by decide) ?_⟩⟩
        exact ⟨S6.trans s7, rfl⟩
      · refine iteN (by decide) ?_
        exact ⟨S6, rfl⟩
    · rintro σ' H7 ⟨s7, rfl⟩
      have hts7 := s7 _ _ hts
      have d7 := d4.news s7
      refine ⟨_, rfl, lr, _, rfl, SqL.of hts7, rfl, _, rfl, iteB (fun e => k _) fun e => ?_⟩
      have two : ts.length ≠ 1 := fun z => of_decide_eq_false e (by rw [z]; rfl)
      have f1 := hB.f1
      have rows7 := hrows'.news s7
      refine ⟨_, rfl, _, rfl, lr, _, rfl, SqL.of hts7, p, q, _, rfl, d7, hpq, by omega, fun H8 v v0 v1 d8 k8 => ?_⟩
      obtain ⟨i, rfl⟩ : ∃ i : Nat, v = (i : Nat) := ⟨v.toNat, by omega⟩
      obtain ⟨ts8, hts8, hR8⟩ := rows7.kp d7 k8
      have hl8 := hR8.1
      refine ⟨_, rfl, _, rfl, _, rfl, lr, _, rfl, SqL.of hts8, fun l1 l10 => ?_⟩
      rw [cutV_to (xs := ts8) (v := i) (by omega)]
      have t1 := same_new (o := .lst (ts8.take i)) l10
      refine ⟨_, rfl, _, rfl, _, _, rfl, rfl, _, rfl, lr, _, rfl, SqL.of (t1 _ _ hts8), fun l3 l30 => ?_⟩
      rw [show ((i : Int) + 1) = ((i + 1 : Nat) : Int) by omega, cutV_from (xs := ts8) (v := i + 1) (by omega)]
      have t2 := same_new (o := .lst (ts8.drop (i + 1))) l30
      refine ⟨l1, l3, _, _, rfl, rfl, t2 _ _ upd_same, upd_same, by rw [List.length_take, List.length_drop]; omega, fun l4 l40 => ?_⟩
      have t3 := same_new (o := .lst (ts8.take i ++ ts8.drop (i + 1))) l40
      have TT := (t1.trans t2).trans t3
      have hRl : Refs H8 (ts8.take i ++ ts8.drop (i + 1)) (F.take i ++ F.drop (i + 1)) RowP := (hR8.take i).app (hR8.drop (i + 1))
      have hsub : (F.take i ++ F.drop (i + 1)).Sublist F := by
        conv => rhs; rw [← List.take_append_drop i F]
        refine (List.Sublist.refl _).append ?_
        rw [show i + 1 = i + 1 from rfl, ← List.drop_drop]
        exact List.drop_sublist _ _
      have hBl : BookOk n 1 (F.take i ++ F.drop (i + 1)) := hB.sub hsub (by rw [List.length_append, List.length_take, List.length_drop]; omega)
      have hl4 : ∀ H' : Hp, Same (upd (upd (upd H8 l1 (.lst (ts8.take i))) l3 (.lst (ts8.drop (i + 1)))) l4 (.lst (ts8.take i ++ ts8.drop (i + 1)))) H' → RowsAt H' l4 (F.take i ++ F.drop (i + 1)) := fun H' s' => ⟨_, s' _ _ upd_same, hRl.map fun u f _ h => (h.news TT).news s'⟩
      generalize upd (upd (upd H8 l1 (.lst (ts8.take i))) l3 (.lst (ts8.drop (i + 1)))) l4 (.lst (ts8.take i ++ ts8.drop (i + 1))) = H9 at hl4 TT ⊢
      obtain ⟨tl, htl4, hRl4⟩ := hl4 H9 (Same.refl _)
      refine ⟨_, rfl, _, rfl, fun pb db pb0 db0 pne => ?_⟩
      have sb : Same H9 (upd (upd H9 db (.own pb)) pb (.ins T.C_Book db [])) := (same_new db0).trans (same_new (by rw [upd_ne (Ne.symm pne)]; exact pb0))
      refine ⟨pb, db, l4, tl, F.take i ++ F.drop (i + 1), n, 1, rfl, upd_same, sb _ _ htl4, hRl4.map fun u f _ h => h.news sb, hBl, fun H10 k10 hBook2 => ⟨rfl, ?_⟩⟩
      have s10 : Same H9 H10 := fun b' o e => k10 _ _ (sb _ _ e) fun z => by rw [z, pb0] at e; cases e
      refine ⟨_, rfl, _, rfl, pb, l4, F.take i ++ F.drop (i + 1), n, 1, rfl, hBook2, hl4 _ s10, hBl.forms, fun H11 s11 => ?_⟩
      refine ⟨_, rfl, rfl, _, rfl, iteP rfl ?_⟩
      refine ⟨_, rfl, _, rfl, _, _, rfl, rfl, ?_⟩
      have hlt := wts_sub (n := n) (F := F) (i := i) (by omega)
      rw [hall] at hlt
      have e9 : decide (((wts n (F.take i ++ F.drop (i + 1)) : Nat) : Int) < ((2 ^ (3 * n) : Nat) : Int)) = true := decide_eq_true (by omega)
      show Q (.bl (decide (((wts n (F.take i ++ F.drop (i + 1)) : Nat) : Int) < ((2 ^ (3 * n) : Nat) : Int)))) H11
      rw [e9]
      exact k _
end
end My

namespace My
open PySem L2
/-- an error of the class at S is what «except S» names -/
theorem exm_own {K : PySem.W.Frag} {S : Addr} (h1 : PySem.W.subIn K (.ref S) (.type "BaseException") = some true) (h2 : PySem.W.isClsIn K S = true) (h3 : PySem.W.typeIn K (.ref S) = some (.type "type")) (h4 : PySem.W.subIn K (.ref S) (.ref S) = some true) :
    PySem.W.exmOne K (.ref S) (.ref S) = some true := by
  have e1 : (PySem.W.subIn K (.ref S) (.type "BaseException") == some true) = true := by rw [h1] <;> rfl
  have e2 : ((PySem.W.clsIn K S).isSome && PySem.W.typeIn K (.ref S) == some (.type "type")) = true := by
    have h2' : (PySem.W.clsIn K S).isSome = true := h2
    rw [h2', h3] <;> rfl
  show (if (PySem.W.subIn K (.ref S) (.type "BaseException") == some true) = true then (if ((PySem.W.clsIn K S).isSome && PySem.W.typeIn K (.ref S) == some (.type "type")) = true then PySem.W.subIn K (.ref S) (.ref S) else none) else none) = some true
  rw [if_pos e1, if_pos e2]
  exact h4
theorem kit_of {K : PySem.W.Frag} {x c : Addr} {b : Bool} (h1 : PySem.W.isClsIn K c = true) (h2 : PySem.W.typeIn K (.ref c) = some (.type "type")) (h3 : PySem.W.subIn K (.ref x) (.ref c) = some b) (h4 : PySem.W.subIn K (.ref x) (.ref x) = some true) : PySem.W.kitOne K (.ref x) (.ref c) = some b := by
  unfold PySem.W.kitOne
  by_cases e : ((Value.ref x) == (Value.ref c)) = true
  · rw [if_pos e]
    have : x = c := Value.ref.inj (beq_iff_eq.mp e)
    subst this
    rw [h4] at h3
    exact h3
  · rw [if_neg e]
    have e2 : ((PySem.W.clsIn K c).isSome && PySem.W.typeIn K (.ref c) == some (.type "type")) = true := by
      have h1' : (PySem.W.clsIn K c).isSome = true := h1
      rw [h1', h2] <;> rfl
    show (if ((PySem.W.clsIn K c).isSome && PySem.W.typeIn K (.ref c) == some (.type "type")) = true then PySem.W.subIn K (.ref x) (.ref c) else none) = some b
    rw [if_pos e2]
    exact h3
theorem oexE_of {K : PySem.W.Frag} {C : Addr} (q : PySem.W.excInitIn K C exB "Exception.__new__" = true) (hd : PySem.W.hasDictIn K C = true) (sa : PySem.W.findIn K (.ref C) "__setattr__" = some (some (.builtin "object.__setattr__"))) (ex : PySem.W.subIn K (.ref C) (.type "BaseException") = some true)
    (ty : PySem.W.typeIn K (.ref C) = some (.type "type")) (kp : PySem.W.keepIn K (.ref C) = true) : OexE K C := by
  refine ⟨?_, sa, ex, ty, kp⟩
  unfold PySem.W.excInitIn at q
  split at q
  · rename_i dd cd sl ho
    split at q
    · rename_i C' bm k0 k1 k2 k3 n k5 hm hs
      simp only [Bool.and_eq_true, beq_iff_eq, Bool.not_eq_true'] at q
      obtain ⟨⟨⟨rfl, rfl⟩, hdel⟩, ht⟩ := q
      have hD : cd.hasDict = true := by
        unfold PySem.W.hasDictIn PySem.W.clsIn at hd
        rw [ho] at hd
        exact hd
      obtain ⟨nm, bs, mro, ns, qn, hd', sn, sub, ab, col, del⟩ := cd
      dsimp only at hm hdel hD
      subst hm hdel hD
      have hsl : sl = #[k0, k1, k2, k3, some (.builtin "Exception.__new__"), k5] := by
        obtain ⟨l⟩ := sl
        simp only at hs
        rw [hs]
      subst hsl
      exact ⟨nm, qn, ns, bs, bm, sn, sub, ab, col, dd, k0, k1, k2, k3, k5, ho, ht⟩
    · cases q
  · cases q
theorem tup_kit {K : PySem.W.Frag} {a n : Nat} {od : Option Addr} {sl : Array (Option Value)} {its : Array Value} {xs : List V} (lk : K.lookup a = some ⟨.type "tuple", od, .seq its n, sl⟩) (z : its.size ≤ sizeLine) (v : Vals xs its.toList) : ∀ H, SqT K H a xs :=
  fun H => .inr ⟨_, its, n, lk, rfl, rfl, z, v⟩
theorem mk_is_int {K : PySem.W.Frag} {f : Addr} {od an : Option Addr} {sl : Array (Option Value)} {oc kV dc pm cd ct : Value} (l : K.lookup f = some ⟨oc, od, .func (PySem.W.fnOf "is_int" "is_int" (defArgs s_is_int) (defBody s_is_int) (defScope s_is_int) .none kV dc pm an cd ct), sl⟩) (c : PySem.W.codeIn K cd "is_int" = true) (k : PySem.W.keepIn K (.ref f) = true) :
    ∃ fd : FuncData, Fun K "is_int" "is_int" s_is_int f fd ∧ Binds K fd ["value"] [] := ⟨_, fun_mk (st := s_is_int) l c k, (fun_mk (st := s_is_int) l c k).binds (ps := ["value"]) fun _ _ _ _ _ _ us hl => match us, hl with | [_], _ => rfl⟩
theorem mk_is_row {K : PySem.W.Frag} {f : Addr} {od an : Option Addr} {sl : Array (Option Value)} {oc kV dc pm cd ct : Value} (l : K.lookup f = some ⟨oc, od, .func (PySem.W.fnOf "is_row" "is_row" (defArgs s_is_row) (defBody s_is_row) (defScope s_is_row) .none kV dc pm an cd ct), sl⟩) (c : PySem.W.codeIn K cd "is_row" = true) (k : PySem.W.keepIn K (.ref f) = true) :
    ∃ fd : FuncData, Fun K "is_row" "is_row" s_is_row f fd ∧ Binds K fd ["value"] [] := ⟨_, fun_mk (st := s_is_row) l c k, (fun_mk (st := s_is_row) l c k).binds (ps := ["value"]) fun _ _ _ _ _ _ us hl => match us, hl with | [_], _ => rfl⟩
theorem mk_check_int {K : PySem.W.Frag} {f : Addr} {od an : Option Addr} {sl : Array (Option Value)} {oc kV dc pm cd ct : Value} (l : K.lookup f = some ⟨oc, od, .func (PySem.W.fnOf "check_int" "check_int" (defArgs s_check_int) (defBody s_check_int) (defScope s_check_int) .none kV dc pm an cd ct), sl⟩) (c : PySem.W.codeIn K cd "check_int" = true) (k : PySem.W.keepIn K (.ref f) = true) :
    ∃ fd : FuncData, Fun K "check_int" "check_int" s_check_int f fd ∧ Binds K fd ["value", "low", "high", "name"] [] := ⟨_, fun_mk (st := s_check_int) l c k, (fun_mk (st := s_check_int) l c k).binds (ps := ["value", "low", "high", "name"]) fun _ _ _ _ _ _ us hl => match us, hl with | [_, _, _, _], _ => rfl⟩
theorem mk_letters_of {K : PySem.W.Frag} {f : Addr} {od an : Option Addr} {sl : Array (Option Value)} {oc kV dc pm cd ct : Value} (l : K.lookup f = some ⟨oc, od, .func (PySem.W.fnOf "letters_of" "letters_of" (defArgs s_letters_of) (defBody s_letters_of) (defScope s_letters_of) .none kV dc pm an cd ct), sl⟩) (c : PySem.W.codeIn K cd "letters_of" = true) (k : PySem.W.keepIn K (.ref f) = true) :
    ∃ fd : FuncData, Fun K "letters_of" "letters_of" s_letters_of f fd ∧ Binds K fd ["patterns"] [] := ⟨_, fun_mk (st := s_letters_of) l c k, (fun_mk (st := s_letters_of) l c k).binds (ps := ["patterns"]) fun _ _ _ _ _ _ us hl => match us, hl with | [_], _ => rfl⟩
theorem mk_fixed_bits {K : PySem.W.Frag} {f : Addr} {od an : Option Addr} {sl : Array (Option Value)} {oc kV dc pm cd ct : Value} (l : K.lookup f = some ⟨oc, od, .func (PySem.W.fnOf "fixed_bits" "fixed_bits" (defArgs s_fixed_bits) (defBody s_fixed_bits) (defScope s_fixed_bits) .none kV dc pm an cd ct), sl⟩) (c : PySem.W.codeIn K cd "fixed_bits" = true) (k : PySem.W.keepIn K (.ref f) = true) :
    ∃ fd : FuncData, Fun K "fixed_bits" "fixed_bits" s_fixed_bits f fd ∧ Binds K fd ["pattern"] [] := ⟨_, fun_mk (st := s_fixed_bits) l c k, (fun_mk (st := s_fixed_bits) l c k).binds (ps := ["pattern"]) fun _ _ _ _ _ _ us hl => match us, hl with | [_], _ => rfl⟩
theorem mk_letters_for {K : PySem.W.Frag} {f : Addr} {od an : Option Addr} {sl : Array (Option Value)} {oc kV dc pm cd ct : Value} (l : K.lookup f = some ⟨oc, od, .func (PySem.W.fnOf "letters_for" "letters_for" (defArgs s_letters_for) (defBody s_letters_for) (defScope s_letters_for) .none kV dc pm an cd ct), sl⟩) (c : PySem.W.codeIn K cd "letters_for" = true) (k : PySem.W.keepIn K (.ref f) = true) :
    ∃ fd : FuncData, Fun K "letters_for" "letters_for" s_letters_for f fd ∧ Binds K fd ["sign"] [] := ⟨_, fun_mk (st := s_letters_for) l c k, (fun_mk (st := s_letters_for) l c k).binds (ps := ["sign"]) fun _ _ _ _ _ _ us hl => match us, hl with | [_], _ => rfl⟩
theorem mk_written_line {K : PySem.W.Frag} {f : Addr} {od an : Option Addr} {sl : Array (Option Value)} {oc kV dc pm cd ct : Value} (l : K.lookup f = some ⟨oc, od, .func (PySem.W.fnOf "written_line" "written_line" (defArgs s_written_line) (defBody s_written_line) (defScope s_written_line) .none kV dc pm an cd ct), sl⟩) (c : PySem.W.codeIn K cd "written_line" = true) (k : PySem.W.keepIn K (.ref f) = true) :
    ∃ fd : FuncData, Fun K "written_line" "written_line" s_written_line f fd ∧ Binds K fd ["entries"] [] := ⟨_, fun_mk (st := s_written_line) l c k, (fun_mk (st := s_written_line) l c k).binds (ps := ["entries"]) fun _ _ _ _ _ _ us hl => match us, hl with | [_], _ => rfl⟩
theorem mk_is_name {K : PySem.W.Frag} {f : Addr} {od an : Option Addr} {sl : Array (Option Value)} {oc kV dc pm cd ct : Value} (l : K.lookup f = some ⟨oc, od, .func (PySem.W.fnOf "is_name" "is_name" (defArgs s_is_name) (defBody s_is_name) (defScope s_is_name) .none kV dc pm an cd ct), sl⟩) (c : PySem.W.codeIn K cd "is_name" = true) (k : PySem.W.keepIn K (.ref f) = true) :
    ∃ fd : FuncData, Fun K "is_name" "is_name" s_is_name f fd ∧ Binds K fd ["name"] [] := ⟨_, fun_mk (st := s_is_name) l c k, (fun_mk (st := s_is_name) l c k).binds (ps := ["name"]) fun _ _ _ _ _ _ us hl => match us, hl with | [_], _ => rfl⟩
theorem mk_first_of {K : PySem.W.Frag} {f : Addr} {od an : Option Addr} {sl : Array (Option Value)} {oc kV dc pm cd ct : Value} (l : K.lookup f = some ⟨oc, od, .func (PySem.W.fnOf "_first_of" "_first_of" (defArgs s_first_of) (defBody s_first_of) (defScope s_first_of) .none kV dc pm an cd ct), sl⟩) (c : PySem.W.codeIn K cd "_first_of" = true) (k : PySem.W.keepIn K (.ref f) = true) :
    ∃ fd : FuncData, Fun K "_first_of" "_first_of" s_first_of f fd ∧ Binds K fd ["lines", "names"] [] := ⟨_, fun_mk (st := s_first_of) l c k, (fun_mk (st := s_first_of) l c k).binds (ps := ["lines", "names"]) fun _ _ _ _ _ _ us hl => match us, hl with | [_, _], _ => rfl⟩
theorem mk_is_pattern {K : PySem.W.Frag} {f : Addr} {od an : Option Addr} {sl : Array (Option Value)} {oc kV dc pm cd ct : Value} (l : K.lookup f = some ⟨oc, od, .func (PySem.W.fnOf "_is_pattern" "_is_pattern" (defArgs s_is_pattern) (defBody s_is_pattern) (defScope s_is_pattern) .none kV dc pm an cd ct), sl⟩) (c : PySem.W.codeIn K cd "_is_pattern" = true) (k : PySem.W.keepIn K (.ref f) = true) :
    ∃ fd : FuncData, Fun K "_is_pattern" "_is_pattern" s_is_pattern f fd ∧ Binds K fd ["word", "pattern"] [] := ⟨_, fun_mk (st := s_is_pattern) l c k, (fun_mk (st := s_is_pattern) l c k).binds (ps := ["word", "pattern"]) fun _ _ _ _ _ _ us hl => match us, hl with | [_, _], _ => rfl⟩
theorem mk_are_patterns {K : PySem.W.Frag} {f : Addr} {od an : Option Addr} {sl : Array (Option Value)} {oc kV dc pm cd ct : Value} (l : K.lookup f = some ⟨oc, od, .func (PySem.W.fnOf "_are_patterns" "_are_patterns" (defArgs s_are_patterns) (defBody s_are_patterns) (defScope s_are_patterns) .none kV dc pm an cd ct), sl⟩) (c : PySem.W.codeIn K cd "_are_patterns" = true) (k : PySem.W.keepIn K (.ref f) = true) :
    ∃ fd : FuncData, Fun K "_are_patterns" "_are_patterns" s_are_patterns f fd ∧ Binds K fd ["word", "registers", "patterns"] [] := ⟨_, fun_mk (st := s_are_patterns) l c k, (fun_mk (st := s_are_patterns) l c k).binds (ps := ["word", "registers", "patterns"]) fun _ _ _ _ _ _ us hl => match us, hl with | [_, _, _], _ => rfl⟩
theorem mk_first_wrong {K : PySem.W.Frag} {f : Addr} {od an : Option Addr} {sl : Array (Option Value)} {oc kV dc pm cd ct : Value} (l : K.lookup f = some ⟨oc, od, .func (PySem.W.fnOf "_first_wrong" "_first_wrong" (defArgs s_first_wrong) (defBody s_first_wrong) (defScope s_first_wrong) .none kV dc pm an cd ct), sl⟩) (c : PySem.W.codeIn K cd "_first_wrong" = true) (k : PySem.W.keepIn K (.ref f) = true) :
    ∃ fd : FuncData, Fun K "_first_wrong" "_first_wrong" s_first_wrong f fd ∧ Binds K fd ["grammar", "lines"] [] := ⟨_, fun_mk (st := s_first_wrong) l c k, (fun_mk (st := s_first_wrong) l c k).binds (ps := ["grammar", "lines"]) fun _ _ _ _ _ _ us hl => match us, hl with | [_, _], _ => rfl⟩
theorem mk_Form_init {K : PySem.W.Frag} {f : Addr} {od an : Option Addr} {sl : Array (Option Value)} {oc kV dc pm cd ct : Value} (l : K.lookup f = some ⟨oc, od, .func (PySem.W.fnOf "__init__" "Form.__init__" (defArgs s_Form_init) (defBody s_Form_init) (defScope s_Form_init) .none kV dc pm an cd ct), sl⟩) (c : PySem.W.codeIn K cd "Form.__init__" = true) (k : PySem.W.keepIn K (.ref f) = true) :
    ∃ fd : FuncData, Fun K "__init__" "Form.__init__" s_Form_init f fd ∧ Binds K fd ["self", "name", "patterns", "lines"] [] := ⟨_, fun_mk (st := s_Form_init) l c k, (fun_mk (st := s_Form_init) l c k).binds (ps := ["self", "name", "patterns", "lines"]) fun _ _ _ _ _ _ us hl => match us, hl with | [_, _, _, _], _ => rfl⟩
theorem mk_Grammar_init {K : PySem.W.Frag} {f : Addr} {od an : Option Addr} {sl : Array (Option Value)} {oc kV dc pm cd ct : Value} (l : K.lookup f = some ⟨oc, od, .func (PySem.W.fnOf "__init__" "Grammar.__init__" (defArgs s_Grammar_init) (defBody s_Grammar_init) (defScope s_Grammar_init) .none kV dc pm an cd ct), sl⟩) (c : PySem.W.codeIn K cd "Grammar.__init__" = true) (k : PySem.W.keepIn K (.ref f) = true) :
    ∃ fd : FuncData, Fun K "__init__" "Grammar.__init__" s_Grammar_init f fd ∧ Binds K fd ["self", "word", "registers", "letters"] [] := ⟨_, fun_mk (st := s_Grammar_init) l c k, (fun_mk (st := s_Grammar_init) l c k).binds (ps := ["self", "word", "registers", "letters"]) fun _ _ _ _ _ _ us hl => match us, hl with | [_, _, _, _], _ => rfl⟩
theorem mk_checked_forms {K : PySem.W.Frag} {f : Addr} {od an : Option Addr} {sl : Array (Option Value)} {oc kV dc pm cd ct : Value} (l : K.lookup f = some ⟨oc, od, .func (PySem.W.fnOf "_checked_forms" "_checked_forms" (defArgs s_checked_forms) (defBody s_checked_forms) (defScope s_checked_forms) .none kV dc pm an cd ct), sl⟩) (c : PySem.W.codeIn K cd "_checked_forms" = true) (k : PySem.W.keepIn K (.ref f) = true) :
    ∃ fd : FuncData, Fun K "_checked_forms" "_checked_forms" s_checked_forms f fd ∧ Binds K fd ["word", "registers", "forms"] [] := ⟨_, fun_mk (st := s_checked_forms) l c k, (fun_mk (st := s_checked_forms) l c k).binds (ps := ["word", "registers", "forms"]) fun _ _ _ _ _ _ us hl => match us, hl with | [_, _, _], _ => rfl⟩
theorem mk_written {K : PySem.W.Frag} {f : Addr} {od an : Option Addr} {sl : Array (Option Value)} {oc kV dc pm cd ct : Value} (l : K.lookup f = some ⟨oc, od, .func (PySem.W.fnOf "_written" "_written" (defArgs s_written) (defBody s_written) (defScope s_written) .none kV dc pm an cd ct), sl⟩) (c : PySem.W.codeIn K cd "_written" = true) (k : PySem.W.keepIn K (.ref f) = true) :
    ∃ fd : FuncData, Fun K "_written" "_written" s_written f fd ∧ Binds K fd ["book"] [] := ⟨_, fun_mk (st := s_written) l c k, (fun_mk (st := s_written) l c k).binds (ps := ["book"]) fun _ _ _ _ _ _ us hl => match us, hl with | [_], _ => rfl⟩
theorem mk_Book_init {K : PySem.W.Frag} {f : Addr} {od an : Option Addr} {sl : Array (Option Value)} {oc kV dc pm cd ct : Value} (l : K.lookup f = some ⟨oc, od, .func (PySem.W.fnOf "__init__" "Book.__init__" (defArgs s_Book_init) (defBody s_Book_init) (defScope s_Book_init) .none kV dc pm an cd ct), sl⟩) (c : PySem.W.codeIn K cd "Book.__init__" = true) (k : PySem.W.keepIn K (.ref f) = true) :
    ∃ fd : FuncData, Fun K "__init__" "Book.__init__" s_Book_init f fd ∧ Binds K fd ["self", "word", "registers", "forms"] [] := ⟨_, fun_mk (st := s_Book_init) l c k, (fun_mk (st := s_Book_init) l c k).binds (ps := ["self", "word", "registers", "forms"]) fun _ _ _ _ _ _ us hl => match us, hl with | [_, _, _, _], _ => rfl⟩
theorem mk_fixed {K : PySem.W.Frag} {f : Addr} {od an : Option Addr} {sl : Array (Option Value)} {oc kV dc pm cd ct : Value} (l : K.lookup f = some ⟨oc, od, .func (PySem.W.fnOf "fixed" "fixed" (defArgs s_fixed) (defBody s_fixed) (defScope s_fixed) .none kV dc pm an cd ct), sl⟩) (c : PySem.W.codeIn K cd "fixed" = true) (k : PySem.W.keepIn K (.ref f) = true) :
    ∃ fd : FuncData, Fun K "fixed" "fixed" s_fixed f fd ∧ Binds K fd ["patterns"] [] := ⟨_, fun_mk (st := s_fixed) l c k, (fun_mk (st := s_fixed) l c k).binds (ps := ["patterns"]) fun _ _ _ _ _ _ us hl => match us, hl with | [_], _ => rfl⟩
theorem mk_begins {K : PySem.W.Frag} {f : Addr} {od an : Option Addr} {sl : Array (Option Value)} {oc kV dc pm cd ct : Value} (l : K.lookup f = some ⟨oc, od, .func (PySem.W.fnOf "begins" "begins" (defArgs s_begins) (defBody s_begins) (defScope s_begins) .none kV dc pm an cd ct), sl⟩) (c : PySem.W.codeIn K cd "begins" = true) (k : PySem.W.keepIn K (.ref f) = true) :
    ∃ fd : FuncData, Fun K "begins" "begins" s_begins f fd ∧ Binds K fd ["book"] [] := ⟨_, fun_mk (st := s_begins) l c k, (fun_mk (st := s_begins) l c k).binds (ps := ["book"]) fun _ _ _ _ _ _ us hl => match us, hl with | [_], _ => rfl⟩
theorem mk_is_full {K : PySem.W.Frag} {f : Addr} {od an : Option Addr} {sl : Array (Option Value)} {oc kV dc pm cd ct : Value} (l : K.lookup f = some ⟨oc, od, .func (PySem.W.fnOf "is_full" "is_full" (defArgs s_is_full) (defBody s_is_full) (defScope s_is_full) .none kV dc pm an cd ct), sl⟩) (c : PySem.W.codeIn K cd "is_full" = true) (k : PySem.W.keepIn K (.ref f) = true) :
    ∃ fd : FuncData, Fun K "is_full" "is_full" s_is_full f fd ∧ Binds K fd ["book"] [] := ⟨_, fun_mk (st := s_is_full) l c k, (fun_mk (st := s_is_full) l c k).binds (ps := ["book"]) fun _ _ _ _ _ _ us hl => match us, hl with | [_], _ => rfl⟩
theorem mk_law_draws {K : PySem.W.Frag} {f : Addr} {od an : Option Addr} {sl : Array (Option Value)} {oc kV dc pm cd ct : Value} (l : K.lookup f = some ⟨oc, od, .func (PySem.W.fnOf "_law_draws" "_law_draws" (defArgs s_law_draws) (defBody s_law_draws) (defScope s_law_draws) .none kV dc pm an cd ct), sl⟩) (c : PySem.W.codeIn K cd "_law_draws" = true) (k : PySem.W.keepIn K (.ref f) = true) :
    ∃ fd : FuncData, Fun K "_law_draws" "_law_draws" s_law_draws f fd ∧ Binds K fd ["_law_script"] [] := ⟨_, fun_mk (st := s_law_draws) l c k, (fun_mk (st := s_law_draws) l c k).binds (ps := ["_law_script"]) fun _ _ _ _ _ _ us hl => match us, hl with | [_], _ => rfl⟩
theorem mk_law_take {K : PySem.W.Frag} {f : Addr} {od an : Option Addr} {sl : Array (Option Value)} {oc kV dc pm cd ct : Value} (l : K.lookup f = some ⟨oc, od, .func (PySem.W.fnOf "_law_take" "_law_take" (defArgs s_law_take) (defBody s_law_take) (defScope s_law_take) .none kV dc pm an cd ct), sl⟩) (c : PySem.W.codeIn K cd "_law_take" = true) (k : PySem.W.keepIn K (.ref f) = true) :
    ∃ fd : FuncData, Fun K "_law_take" "_law_take" s_law_take f fd ∧ Binds K fd ["_law_draws_here", "_law_many"] [] := ⟨_, fun_mk (st := s_law_take) l c k, (fun_mk (st := s_law_take) l c k).binds (ps := ["_law_draws_here", "_law_many"]) fun _ _ _ _ _ _ us hl => match us, hl with | [_, _], _ => rfl⟩
theorem mk_law_is_int {K : PySem.W.Frag} {f : Addr} {od an : Option Addr} {sl : Array (Option Value)} {oc kV dc pm cd ct : Value} (l : K.lookup f = some ⟨oc, od, .func (PySem.W.fnOf "_law_is_int" "_law_is_int" (defArgs s_law_is_int) (defBody s_law_is_int) (defScope s_law_is_int) .none kV dc pm an cd ct), sl⟩) (c : PySem.W.codeIn K cd "_law_is_int" = true) (k : PySem.W.keepIn K (.ref f) = true) :
    ∃ fd : FuncData, Fun K "_law_is_int" "_law_is_int" s_law_is_int f fd ∧ Binds K fd ["_law_thing"] [] := ⟨_, fun_mk (st := s_law_is_int) l c k, (fun_mk (st := s_law_is_int) l c k).binds (ps := ["_law_thing"]) fun _ _ _ _ _ _ us hl => match us, hl with | [_], _ => rfl⟩
theorem mk_law_letters {K : PySem.W.Frag} {f : Addr} {od an : Option Addr} {sl : Array (Option Value)} {oc kV dc pm cd ct : Value} (l : K.lookup f = some ⟨oc, od, .func (PySem.W.fnOf "_law_letters" "_law_letters" (defArgs s_law_letters) (defBody s_law_letters) (defScope s_law_letters) .none kV dc pm an cd ct), sl⟩) (c : PySem.W.codeIn K cd "_law_letters" = true) (k : PySem.W.keepIn K (.ref f) = true) :
    ∃ fd : FuncData, Fun K "_law_letters" "_law_letters" s_law_letters f fd ∧ Binds K fd ["_law_patterns_here"] [] := ⟨_, fun_mk (st := s_law_letters) l c k, (fun_mk (st := s_law_letters) l c k).binds (ps := ["_law_patterns_here"]) fun _ _ _ _ _ _ us hl => match us, hl with | [_], _ => rfl⟩
theorem mk_law_fits {K : PySem.W.Frag} {f : Addr} {od an : Option Addr} {sl : Array (Option Value)} {oc kV dc pm cd ct : Value} (l : K.lookup f = some ⟨oc, od, .func (PySem.W.fnOf "_law_fits" "_law_fits" (defArgs s_law_fits) (defBody s_law_fits) (defScope s_law_fits) .none kV dc pm an cd ct), sl⟩) (c : PySem.W.codeIn K cd "_law_fits" = true) (k : PySem.W.keepIn K (.ref f) = true) :
    ∃ fd : FuncData, Fun K "_law_fits" "_law_fits" s_law_fits f fd ∧ Binds K fd ["_law_pattern", "_law_word"] [] := ⟨_, fun_mk (st := s_law_fits) l c k, (fun_mk (st := s_law_fits) l c k).binds (ps := ["_law_pattern", "_law_word"]) fun _ _ _ _ _ _ us hl => match us, hl with | [_, _], _ => rfl⟩
theorem mk_law_numbers {K : PySem.W.Frag} {f : Addr} {od an : Option Addr} {sl : Array (Option Value)} {oc kV dc pm cd ct : Value} (l : K.lookup f = some ⟨oc, od, .func (PySem.W.fnOf "_law_numbers" "_law_numbers" (defArgs s_law_numbers) (defBody s_law_numbers) (defScope s_law_numbers) .none kV dc pm an cd ct), sl⟩) (c : PySem.W.codeIn K cd "_law_numbers" = true) (k : PySem.W.keepIn K (.ref f) = true) :
    ∃ fd : FuncData, Fun K "_law_numbers" "_law_numbers" s_law_numbers f fd ∧ Binds K fd ["_law_patterns_here", "_law_cells"] [] := ⟨_, fun_mk (st := s_law_numbers) l c k, (fun_mk (st := s_law_numbers) l c k).binds (ps := ["_law_patterns_here", "_law_cells"]) fun _ _ _ _ _ _ us hl => match us, hl with | [_, _], _ => rfl⟩
theorem mk_law_decode {K : PySem.W.Frag} {f : Addr} {od an : Option Addr} {sl : Array (Option Value)} {oc kV dc pm cd ct : Value} (l : K.lookup f = some ⟨oc, od, .func (PySem.W.fnOf "_law_decode" "_law_decode" (defArgs s_law_decode) (defBody s_law_decode) (defScope s_law_decode) .none kV dc pm an cd ct), sl⟩) (c : PySem.W.codeIn K cd "_law_decode" = true) (k : PySem.W.keepIn K (.ref f) = true) :
    ∃ fd : FuncData, Fun K "_law_decode" "_law_decode" s_law_decode f fd ∧ Binds K fd ["_law_rows", "_law_cells"] [] := ⟨_, fun_mk (st := s_law_decode) l c k, (fun_mk (st := s_law_decode) l c k).binds (ps := ["_law_rows", "_law_cells"]) fun _ _ _ _ _ _ us hl => match us, hl with | [_, _], _ => rfl⟩
theorem mk_law_patterns {K : PySem.W.Frag} {f : Addr} {od an : Option Addr} {sl : Array (Option Value)} {oc kV dc pm cd ct : Value} (l : K.lookup f = some ⟨oc, od, .func (PySem.W.fnOf "_law_patterns" "_law_patterns" (defArgs s_law_patterns) (defBody s_law_patterns) (defScope s_law_patterns) .none kV dc pm an cd ct), sl⟩) (c : PySem.W.codeIn K cd "_law_patterns" = true) (k : PySem.W.keepIn K (.ref f) = true) :
    ∃ fd : FuncData, Fun K "_law_patterns" "_law_patterns" s_law_patterns f fd ∧ Binds K fd ["_law_draws_here", "_law_word", "_law_registers", "_law_many"] [] := ⟨_, fun_mk (st := s_law_patterns) l c k, (fun_mk (st := s_law_patterns) l c k).binds (ps := ["_law_draws_here", "_law_word", "_law_registers", "_law_many"]) fun _ _ _ _ _ _ us hl => match us, hl with | [_, _, _, _], _ => rfl⟩
theorem mk_law_bent {K : PySem.W.Frag} {f : Addr} {od an : Option Addr} {sl : Array (Option Value)} {oc kV dc pm cd ct : Value} (l : K.lookup f = some ⟨oc, od, .func (PySem.W.fnOf "_law_bent" "_law_bent" (defArgs s_law_bent) (defBody s_law_bent) (defScope s_law_bent) .none kV dc pm an cd ct), sl⟩) (c : PySem.W.codeIn K cd "_law_bent" = true) (k : PySem.W.keepIn K (.ref f) = true) :
    ∃ fd : FuncData, Fun K "_law_bent" "_law_bent" s_law_bent f fd ∧ Binds K fd ["_law_draws_here", "_law_patterns_here"] [] := ⟨_, fun_mk (st := s_law_bent) l c k, (fun_mk (st := s_law_bent) l c k).binds (ps := ["_law_draws_here", "_law_patterns_here"]) fun _ _ _ _ _ _ us hl => match us, hl with | [_, _], _ => rfl⟩
theorem mk_law_form_rows {K : PySem.W.Frag} {f : Addr} {od an : Option Addr} {sl : Array (Option Value)} {oc kV dc pm cd ct : Value} (l : K.lookup f = some ⟨oc, od, .func (PySem.W.fnOf "_law_form_rows" "_law_form_rows" (defArgs s_law_form_rows) (defBody s_law_form_rows) (defScope s_law_form_rows) .none kV dc pm an cd ct), sl⟩) (c : PySem.W.codeIn K cd "_law_form_rows" = true) (k : PySem.W.keepIn K (.ref f) = true) :
    ∃ fd : FuncData, Fun K "_law_form_rows" "_law_form_rows" s_law_form_rows f fd ∧ Binds K fd ["_law_draws_here", "_law_word", "_law_registers", "_law_many"] [] := ⟨_, fun_mk (st := s_law_form_rows) l c k, (fun_mk (st := s_law_form_rows) l c k).binds (ps := ["_law_draws_here", "_law_word", "_law_registers", "_law_many"]) fun _ _ _ _ _ _ us hl => match us, hl with | [_, _, _, _], _ => rfl⟩
theorem mk_law_clash {K : PySem.W.Frag} {f : Addr} {od an : Option Addr} {sl : Array (Option Value)} {oc kV dc pm cd ct : Value} (l : K.lookup f = some ⟨oc, od, .func (PySem.W.fnOf "_law_clash" "_law_clash" (defArgs s_law_clash) (defBody s_law_clash) (defScope s_law_clash) .none kV dc pm an cd ct), sl⟩) (c : PySem.W.codeIn K cd "_law_clash" = true) (k : PySem.W.keepIn K (.ref f) = true) :
    ∃ fd : FuncData, Fun K "_law_clash" "_law_clash" s_law_clash f fd ∧ Binds K fd ["_law_one", "_law_other"] [] := ⟨_, fun_mk (st := s_law_clash) l c k, (fun_mk (st := s_law_clash) l c k).binds (ps := ["_law_one", "_law_other"]) fun _ _ _ _ _ _ us hl => match us, hl with | [_, _], _ => rfl⟩
theorem mk_law_apart {K : PySem.W.Frag} {f : Addr} {od an : Option Addr} {sl : Array (Option Value)} {oc kV dc pm cd ct : Value} (l : K.lookup f = some ⟨oc, od, .func (PySem.W.fnOf "_law_apart" "_law_apart" (defArgs s_law_apart) (defBody s_law_apart) (defScope s_law_apart) .none kV dc pm an cd ct), sl⟩) (c : PySem.W.codeIn K cd "_law_apart" = true) (k : PySem.W.keepIn K (.ref f) = true) :
    ∃ fd : FuncData, Fun K "_law_apart" "_law_apart" s_law_apart f fd ∧ Binds K fd ["_law_rows"] [] := ⟨_, fun_mk (st := s_law_apart) l c k, (fun_mk (st := s_law_apart) l c k).binds (ps := ["_law_rows"]) fun _ _ _ _ _ _ us hl => match us, hl with | [_], _ => rfl⟩
theorem mk_law_free {K : PySem.W.Frag} {f : Addr} {od an : Option Addr} {sl : Array (Option Value)} {oc kV dc pm cd ct : Value} (l : K.lookup f = some ⟨oc, od, .func (PySem.W.fnOf "_law_free" "_law_free" (defArgs s_law_free) (defBody s_law_free) (defScope s_law_free) .none kV dc pm an cd ct), sl⟩) (c : PySem.W.codeIn K cd "_law_free" = true) (k : PySem.W.keepIn K (.ref f) = true) :
    ∃ fd : FuncData, Fun K "_law_free" "_law_free" s_law_free f fd ∧ Binds K fd ["_law_patterns_here"] [] := ⟨_, fun_mk (st := s_law_free) l c k, (fun_mk (st := s_law_free) l c k).binds (ps := ["_law_patterns_here"]) fun _ _ _ _ _ _ us hl => match us, hl with | [_], _ => rfl⟩
theorem mk_law_counted {K : PySem.W.Frag} {f : Addr} {od an : Option Addr} {sl : Array (Option Value)} {oc kV dc pm cd ct : Value} (l : K.lookup f = some ⟨oc, od, .func (PySem.W.fnOf "_law_counted" "_law_counted" (defArgs s_law_counted) (defBody s_law_counted) (defScope s_law_counted) .none kV dc pm an cd ct), sl⟩) (c : PySem.W.codeIn K cd "_law_counted" = true) (k : PySem.W.keepIn K (.ref f) = true) :
    ∃ fd : FuncData, Fun K "_law_counted" "_law_counted" s_law_counted f fd ∧ Binds K fd ["_law_rows", "_law_word"] [] := ⟨_, fun_mk (st := s_law_counted) l c k, (fun_mk (st := s_law_counted) l c k).binds (ps := ["_law_rows", "_law_word"]) fun _ _ _ _ _ _ us hl => match us, hl with | [_, _], _ => rfl⟩
theorem mk_law_split {K : PySem.W.Frag} {f : Addr} {od an : Option Addr} {sl : Array (Option Value)} {oc kV dc pm cd ct : Value} (l : K.lookup f = some ⟨oc, od, .func (PySem.W.fnOf "_law_split" "_law_split" (defArgs s_law_split) (defBody s_law_split) (defScope s_law_split) .none kV dc pm an cd ct), sl⟩) (c : PySem.W.codeIn K cd "_law_split" = true) (k : PySem.W.keepIn K (.ref f) = true) :
    ∃ fd : FuncData, Fun K "_law_split" "_law_split" s_law_split f fd ∧ Binds K fd ["_law_draws_here", "_law_forms", "_law_word"] [] := ⟨_, fun_mk (st := s_law_split) l c k, (fun_mk (st := s_law_split) l c k).binds (ps := ["_law_draws_here", "_law_forms", "_law_word"]) fun _ _ _ _ _ _ us hl => match us, hl with | [_, _, _], _ => rfl⟩
theorem mk_law_full_rows {K : PySem.W.Frag} {f : Addr} {od an : Option Addr} {sl : Array (Option Value)} {oc kV dc pm cd ct : Value} (l : K.lookup f = some ⟨oc, od, .func (PySem.W.fnOf "_law_full_rows" "_law_full_rows" (defArgs s_law_full_rows) (defBody s_law_full_rows) (defScope s_law_full_rows) .none kV dc pm an cd ct), sl⟩) (c : PySem.W.codeIn K cd "_law_full_rows" = true) (k : PySem.W.keepIn K (.ref f) = true) :
    ∃ fd : FuncData, Fun K "_law_full_rows" "_law_full_rows" s_law_full_rows f fd ∧ Binds K fd ["_law_draws_here", "_law_word"] [] := ⟨_, fun_mk (st := s_law_full_rows) l c k, (fun_mk (st := s_law_full_rows) l c k).binds (ps := ["_law_draws_here", "_law_word"]) fun _ _ _ _ _ _ us hl => match us, hl with | [_, _], _ => rfl⟩
theorem mk_law_is_count {K : PySem.W.Frag} {f : Addr} {od an : Option Addr} {sl : Array (Option Value)} {oc kV dc pm cd ct : Value} (l : K.lookup f = some ⟨oc, od, .func (PySem.W.fnOf "_law_is_count" "_law_is_count" (defArgs s_law_is_count) (defBody s_law_is_count) (defScope s_law_is_count) .none kV dc pm an cd ct), sl⟩) (c : PySem.W.codeIn K cd "_law_is_count" = true) (k : PySem.W.keepIn K (.ref f) = true) :
    ∃ fd : FuncData, Fun K "_law_is_count" "_law_is_count" s_law_is_count f fd ∧ Binds K fd ["_law_book", "_law_rows", "_law_word"] [] := ⟨_, fun_mk (st := s_law_is_count) l c k, (fun_mk (st := s_law_is_count) l c k).binds (ps := ["_law_book", "_law_rows", "_law_word"]) fun _ _ _ _ _ _ us hl => match us, hl with | [_, _, _], _ => rfl⟩
theorem mk_law {K : PySem.W.Frag} {f : Addr} {od an : Option Addr} {sl : Array (Option Value)} {oc kV dc pm cd ct : Value} (l : K.lookup f = some ⟨oc, od, .func (PySem.W.fnOf "law" "law" (defArgs s_law) (defBody s_law) (defScope s_law) .none kV dc pm an cd ct), sl⟩) (c : PySem.W.codeIn K cd "law" = true) (k : PySem.W.keepIn K (.ref f) = true) :
    ∃ fd : FuncData, Fun K "law" "law" s_law f fd ∧ Binds K fd ["_law_script"] [] := ⟨_, fun_mk (st := s_law) l c k, (fun_mk (st := s_law) l c k).binds (ps := ["_law_script"]) fun _ _ _ _ _ _ us hl => match us, hl with | [_], _ => rfl⟩
theorem all_mk {K : PySem.W.Frag} {h : Heap} {mg : Str → Option Value} {f_is_int f_is_row f_check_int f_letters_of f_fixed_bits f_letters_for f_written_line f_is_name f_first_of f_is_pattern f_are_patterns f_first_wrong f_Form_init f_Grammar_init f_checked_forms f_written f_Book_init f_fixed f_begins f_is_full f_law_draws f_law_take f_law_is_int f_law_letters f_law_fits f_law_numbers f_law_decode f_law_patterns f_law_bent f_law_form_rows f_law_clash f_law_apart f_law_free f_law_counted f_law_split f_law_full_rows f_law_is_count f_law C_Form C_Grammar C_Book  a_EFFECTS : Addr} {t_LETTERS t_REGISTER_LETTERS t_NUMBER_LETTERS t_MOST_FORMS t_MOST_PATTERNS t_MOST_LINES t_SMALL_LETTERS t_MOST_CELLS : Tok} (X : K.In h) (G : h.Ns mainGlobals mg)
    (a_fn_is_int : PySem.W.nsIn K mainGlobals "is_int" = some (some (.ref f_is_int)))
    (m_is_int : ∃ fd : FuncData, Fun K "is_int" "is_int" s_is_int f_is_int fd ∧ Binds K fd ["value"] [])
    (a_fn_is_row : PySem.W.nsIn K mainGlobals "is_row" = some (some (.ref f_is_row)))
    (m_is_row : ∃ fd : FuncData, Fun K "is_row" "is_row" s_is_row f_is_row fd ∧ Binds K fd ["value"] [])
    (a_fn_check_int : PySem.W.nsIn K mainGlobals "check_int" = some (some (.ref f_check_int)))
    (m_check_int : ∃ fd : FuncData, Fun K "check_int" "check_int" s_check_int f_check_int fd ∧ Binds K fd ["value", "low", "high", "name"] [])
    (a_fn_letters_of : PySem.W.nsIn K mainGlobals "letters_of" = some (some (.ref f_letters_of)))
    (m_letters_of : ∃ fd : FuncData, Fun K "letters_of" "letters_of" s_letters_of f_letters_of fd ∧ Binds K fd ["patterns"] [])
    (a_fn_fixed_bits : PySem.W.nsIn K mainGlobals "fixed_bits" = some (some (.ref f_fixed_bits)))
    (m_fixed_bits : ∃ fd : FuncData, Fun K "fixed_bits" "fixed_bits" s_fixed_bits f_fixed_bits fd ∧ Binds K fd ["pattern"] [])
    (a_fn_letters_for : PySem.W.nsIn K mainGlobals "letters_for" = some (some (.ref f_letters_for)))
    (m_letters_for : ∃ fd : FuncData, Fun K "letters_for" "letters_for" s_letters_for f_letters_for fd ∧ Binds K fd ["sign"] [])
    (a_fn_written_line : PySem.W.nsIn K mainGlobals "written_line" = some (some (.ref f_written_line)))
    (m_written_line : ∃ fd : FuncData, Fun K "written_line" "written_line" s_written_line f_written_line fd ∧ Binds K fd ["entries"] [])
    (a_fn_is_name : PySem.W.nsIn K mainGlobals "is_name" = some (some (.ref f_is_name)))
    (m_is_name : ∃ fd : FuncData, Fun K "is_name" "is_name" s_is_name f_is_name fd ∧ Binds K fd ["name"] [])
    (a_fn_first_of : PySem.W.nsIn K mainGlobals "_first_of" = some (some (.ref f_first_of)))
    (m_first_of : ∃ fd : FuncData, Fun K "_first_of" "_first_of" s_first_of f_first_of fd ∧ Binds K fd ["lines", "names"] [])
    (a_fn_is_pattern : PySem.W.nsIn K mainGlobals "_is_pattern" = some (some (.ref f_is_pattern)))
    (m_is_pattern : ∃ fd : FuncData, Fun K "_is_pattern" "_is_pattern" s_is_pattern f_is_pattern fd ∧ Binds K fd ["word", "pattern"] [])
    (a_fn_are_patterns : PySem.W.nsIn K mainGlobals "_are_patterns" = some (some (.ref f_are_patterns)))
    (m_are_patterns : ∃ fd : FuncData, Fun K "_are_patterns" "_are_patterns" s_are_patterns f_are_patterns fd ∧ Binds K fd ["word", "registers", "patterns"] [])
    (a_fn_first_wrong : PySem.W.nsIn K mainGlobals "_first_wrong" = some (some (.ref f_first_wrong)))
    (m_first_wrong : ∃ fd : FuncData, Fun K "_first_wrong" "_first_wrong" s_first_wrong f_first_wrong fd ∧ Binds K fd ["grammar", "lines"] [])
    (a_fn_Form_init : PySem.W.findIn K (.ref C_Form) "__init__" = some (some (.ref f_Form_init)))
    (i_Form_init : PySem.W.isFn K (.ref f_Form_init) = true)
    (kp_Form_init : PySem.W.keepIn K (.ref f_Form_init) = true)
    (m_Form_init : ∃ fd : FuncData, Fun K "__init__" "Form.__init__" s_Form_init f_Form_init fd ∧ Binds K fd ["self", "name", "patterns", "lines"] [])
    (a_fn_Grammar_init : PySem.W.findIn K (.ref C_Grammar) "__init__" = some (some (.ref f_Grammar_init)))
    (i_Grammar_init : PySem.W.isFn K (.ref f_Grammar_init) = true)
    (kp_Grammar_init : PySem.W.keepIn K (.ref f_Grammar_init) = true)
    (m_Grammar_init : ∃ fd : FuncData, Fun K "__init__" "Grammar.__init__" s_Grammar_init f_Grammar_init fd ∧ Binds K fd ["self", "word", "registers", "letters"] [])
    (a_fn_checked_forms : PySem.W.nsIn K mainGlobals "_checked_forms" = some (some (.ref f_checked_forms)))
    (m_checked_forms : ∃ fd : FuncData, Fun K "_checked_forms" "_checked_forms" s_checked_forms f_checked_forms fd ∧ Binds K fd ["word", "registers", "forms"] [])
    (a_fn_written : PySem.W.nsIn K mainGlobals "_written" = some (some (.ref f_written)))
    (m_written : ∃ fd : FuncData, Fun K "_written" "_written" s_written f_written fd ∧ Binds K fd ["book"] [])
    (a_fn_Book_init : PySem.W.findIn K (.ref C_Book) "__init__" = some (some (.ref f_Book_init)))
    (i_Book_init : PySem.W.isFn K (.ref f_Book_init) = true)
    (kp_Book_init : PySem.W.keepIn K (.ref f_Book_init) = true)
    (m_Book_init : ∃ fd : FuncData, Fun K "__init__" "Book.__init__" s_Book_init f_Book_init fd ∧ Binds K fd ["self", "word", "registers", "forms"] [])
    (a_fn_fixed : PySem.W.nsIn K mainGlobals "fixed" = some (some (.ref f_fixed)))
    (m_fixed : ∃ fd : FuncData, Fun K "fixed" "fixed" s_fixed f_fixed fd ∧ Binds K fd ["patterns"] [])
    (a_fn_begins : PySem.W.nsIn K mainGlobals "begins" = some (some (.ref f_begins)))
    (m_begins : ∃ fd : FuncData, Fun K "begins" "begins" s_begins f_begins fd ∧ Binds K fd ["book"] [])
    (a_fn_is_full : PySem.W.nsIn K mainGlobals "is_full" = some (some (.ref f_is_full)))
    (m_is_full : ∃ fd : FuncData, Fun K "is_full" "is_full" s_is_full f_is_full fd ∧ Binds K fd ["book"] [])
    (a_fn_law_draws : PySem.W.nsIn K mainGlobals "_law_draws" = some (some (.ref f_law_draws)))
    (m_law_draws : ∃ fd : FuncData, Fun K "_law_draws" "_law_draws" s_law_draws f_law_draws fd ∧ Binds K fd ["_law_script"] [])
    (a_fn_law_take : PySem.W.nsIn K mainGlobals "_law_take" = some (some (.ref f_law_take)))
    (m_law_take : ∃ fd : FuncData, Fun K "_law_take" "_law_take" s_law_take f_law_take fd ∧ Binds K fd ["_law_draws_here", "_law_many"] [])
    (a_fn_law_is_int : PySem.W.nsIn K mainGlobals "_law_is_int" = some (some (.ref f_law_is_int)))
    (m_law_is_int : ∃ fd : FuncData, Fun K "_law_is_int" "_law_is_int" s_law_is_int f_law_is_int fd ∧ Binds K fd ["_law_thing"] [])
    (a_fn_law_letters : PySem.W.nsIn K mainGlobals "_law_letters" = some (some (.ref f_law_letters)))
    (m_law_letters : ∃ fd : FuncData, Fun K "_law_letters" "_law_letters" s_law_letters f_law_letters fd ∧ Binds K fd ["_law_patterns_here"] [])
    (a_fn_law_fits : PySem.W.nsIn K mainGlobals "_law_fits" = some (some (.ref f_law_fits)))
    (m_law_fits : ∃ fd : FuncData, Fun K "_law_fits" "_law_fits" s_law_fits f_law_fits fd ∧ Binds K fd ["_law_pattern", "_law_word"] [])
    (a_fn_law_numbers : PySem.W.nsIn K mainGlobals "_law_numbers" = some (some (.ref f_law_numbers)))
    (m_law_numbers : ∃ fd : FuncData, Fun K "_law_numbers" "_law_numbers" s_law_numbers f_law_numbers fd ∧ Binds K fd ["_law_patterns_here", "_law_cells"] [])
    (a_fn_law_decode : PySem.W.nsIn K mainGlobals "_law_decode" = some (some (.ref f_law_decode)))
    (m_law_decode : ∃ fd : FuncData, Fun K "_law_decode" "_law_decode" s_law_decode f_law_decode fd ∧ Binds K fd ["_law_rows", "_law_cells"] [])
    (a_fn_law_patterns : PySem.W.nsIn K mainGlobals "_law_patterns" = some (some (.ref f_law_patterns)))
    (m_law_patterns : ∃ fd : FuncData, Fun K "_law_patterns" "_law_patterns" s_law_patterns f_law_patterns fd ∧ Binds K fd ["_law_draws_here", "_law_word", "_law_registers", "_law_many"] [])
    (a_fn_law_bent : PySem.W.nsIn K mainGlobals "_law_bent" = some (some (.ref f_law_bent)))
    (m_law_bent : ∃ fd : FuncData, Fun K "_law_bent" "_law_bent" s_law_bent f_law_bent fd ∧ Binds K fd ["_law_draws_here", "_law_patterns_here"] [])
    (a_fn_law_form_rows : PySem.W.nsIn K mainGlobals "_law_form_rows" = some (some (.ref f_law_form_rows)))
    (m_law_form_rows : ∃ fd : FuncData, Fun K "_law_form_rows" "_law_form_rows" s_law_form_rows f_law_form_rows fd ∧ Binds K fd ["_law_draws_here", "_law_word", "_law_registers", "_law_many"] [])
    (a_fn_law_clash : PySem.W.nsIn K mainGlobals "_law_clash" = some (some (.ref f_law_clash)))
    (m_law_clash : ∃ fd : FuncData, Fun K "_law_clash" "_law_clash" s_law_clash f_law_clash fd ∧ Binds K fd ["_law_one", "_law_other"] [])
    (a_fn_law_apart : PySem.W.nsIn K mainGlobals "_law_apart" = some (some (.ref f_law_apart)))
    (m_law_apart : ∃ fd : FuncData, Fun K "_law_apart" "_law_apart" s_law_apart f_law_apart fd ∧ Binds K fd ["_law_rows"] [])
    (a_fn_law_free : PySem.W.nsIn K mainGlobals "_law_free" = some (some (.ref f_law_free)))
    (m_law_free : ∃ fd : FuncData, Fun K "_law_free" "_law_free" s_law_free f_law_free fd ∧ Binds K fd ["_law_patterns_here"] [])
    (a_fn_law_counted : PySem.W.nsIn K mainGlobals "_law_counted" = some (some (.ref f_law_counted)))
    (m_law_counted : ∃ fd : FuncData, Fun K "_law_counted" "_law_counted" s_law_counted f_law_counted fd ∧ Binds K fd ["_law_rows", "_law_word"] [])
    (a_fn_law_split : PySem.W.nsIn K mainGlobals "_law_split" = some (some (.ref f_law_split)))
    (m_law_split : ∃ fd : FuncData, Fun K "_law_split" "_law_split" s_law_split f_law_split fd ∧ Binds K fd ["_law_draws_here", "_law_forms", "_law_word"] [])
    (a_fn_law_full_rows : PySem.W.nsIn K mainGlobals "_law_full_rows" = some (some (.ref f_law_full_rows)))
    (m_law_full_rows : ∃ fd : FuncData, Fun K "_law_full_rows" "_law_full_rows" s_law_full_rows f_law_full_rows fd ∧ Binds K fd ["_law_draws_here", "_law_word"] [])
    (a_fn_law_is_count : PySem.W.nsIn K mainGlobals "_law_is_count" = some (some (.ref f_law_is_count)))
    (m_law_is_count : ∃ fd : FuncData, Fun K "_law_is_count" "_law_is_count" s_law_is_count f_law_is_count fd ∧ Binds K fd ["_law_book", "_law_rows", "_law_word"] [])
    (a_fn_law : PySem.W.nsIn K mainGlobals "law" = some (some (.ref f_law)))
    {od an : Option Addr} {sl : Array (Option Value)} {oc kV dc pm cd ct : Value}
    (l_law : K.lookup f_law = some ⟨oc, od, .func (PySem.W.fnOf "law" "law" (defArgs s_law) (defBody s_law) (defScope s_law) .none kV dc pm an cd ct), sl⟩)
    (c_law : PySem.W.codeIn K cd "law" = true)
    (kp_law : PySem.W.keepIn K (.ref f_law) = true)
    (aC_Form : PySem.W.nsIn K mainGlobals "Form" = some (some (.ref C_Form)))
    (pg_Form : PySem.W.plainGet K C_Form Str.empty = true)
    (hd_Form : PySem.W.hasDictIn K C_Form = true)
    (po_Form : PySem.W.plainOver K C_Form = true)
    (sa_Form : PySem.W.findIn K (.ref C_Form) "__setattr__" = some (some (.builtin "object.__setattr__")))
    (mkI_Form : PySem.W.makesIn K C_Form = true)
    (kc_Form : PySem.W.keepIn K (.ref C_Form) = true)
    (nA_Form_name : PySem.W.findIn K (.ref C_Form) "name" = some none)
    (nA_Form_patterns : PySem.W.findIn K (.ref C_Form) "patterns" = some none)
    (nA_Form_lines : PySem.W.findIn K (.ref C_Form) "lines" = some none)
    (nA_Form_size : PySem.W.findIn K (.ref C_Form) "size" = some none)
    (nA_Form_letters : PySem.W.findIn K (.ref C_Form) "letters" = some none)
    (nA_Form_effect : PySem.W.findIn K (.ref C_Form) "effect" = some none)
    (nA_Form_goto : PySem.W.findIn K (.ref C_Form) "goto" = some none)
    (nA_Form_fixed : PySem.W.findIn K (.ref C_Form) "fixed" = some none)
    (aC_Grammar : PySem.W.nsIn K mainGlobals "Grammar" = some (some (.ref C_Grammar)))
    (pg_Grammar : PySem.W.plainGet K C_Grammar Str.empty = true)
    (hd_Grammar : PySem.W.hasDictIn K C_Grammar = true)
    (po_Grammar : PySem.W.plainOver K C_Grammar = true)
    (sa_Grammar : PySem.W.findIn K (.ref C_Grammar) "__setattr__" = some (some (.builtin "object.__setattr__")))
    (mkI_Grammar : PySem.W.makesIn K C_Grammar = true)
    (kc_Grammar : PySem.W.keepIn K (.ref C_Grammar) = true)
    (nA_Grammar_letters : PySem.W.findIn K (.ref C_Grammar) "letters" = some none)
    (nA_Grammar_numbers : PySem.W.findIn K (.ref C_Grammar) "numbers" = some none)
    (aC_Book : PySem.W.nsIn K mainGlobals "Book" = some (some (.ref C_Book)))
    (pg_Book : PySem.W.plainGet K C_Book Str.empty = true)
    (hd_Book : PySem.W.hasDictIn K C_Book = true)
    (po_Book : PySem.W.plainOver K C_Book = true)
    (sa_Book : PySem.W.findIn K (.ref C_Book) "__setattr__" = some (some (.builtin "object.__setattr__")))
    (mkI_Book : PySem.W.makesIn K C_Book = true)
    (kc_Book : PySem.W.keepIn K (.ref C_Book) = true)
    (nA_Book_word : PySem.W.findIn K (.ref C_Book) "word" = some none)
    (nA_Book_registers : PySem.W.findIn K (.ref C_Book) "registers" = some none)
    (nA_Book_forms : PySem.W.findIn K (.ref C_Book) "forms" = some none)
    (nA_Book__named : PySem.W.findIn K (.ref C_Book) "_named" = some none)
    (nA_Book__text : PySem.W.findIn K (.ref C_Book) "_text" = some none)
    (ct_LETTERS : PySem.W.nsIn K mainGlobals "LETTERS" = some (some (.str "abcmn" t_LETTERS)))
    (ct_REGISTER_LETTERS : PySem.W.nsIn K mainGlobals "REGISTER_LETTERS" = some (some (.str "abc" t_REGISTER_LETTERS)))
    (ct_NUMBER_LETTERS : PySem.W.nsIn K mainGlobals "NUMBER_LETTERS" = some (some (.str "mn" t_NUMBER_LETTERS)))
    (ct_MOST_FORMS : PySem.W.nsIn K mainGlobals "MOST_FORMS" = some (some (.int 32 t_MOST_FORMS)))
    (ct_MOST_PATTERNS : PySem.W.nsIn K mainGlobals "MOST_PATTERNS" = some (some (.int 3 t_MOST_PATTERNS)))
    (ct_MOST_LINES : PySem.W.nsIn K mainGlobals "MOST_LINES" = some (some (.int 12 t_MOST_LINES)))
    (ct_SMALL_LETTERS : PySem.W.nsIn K mainGlobals "SMALL_LETTERS" = some (some (.str "abcdefghijklmnopqrstuvwxyz" t_SMALL_LETTERS)))
    (ct_MOST_CELLS : PySem.W.nsIn K mainGlobals "MOST_CELLS" = some (some (.int 3 t_MOST_CELLS)))
    (ca_EFFECTS : PySem.W.nsIn K mainGlobals "EFFECTS" = some (some (.ref a_EFFECTS)))
    (cv_EFFECTS : ∀ H, SqT K H a_EFFECTS [.str "write", .str "in", .str "out"])
    (z_len : PySem.W.nsIn K mainGlobals "len" = some none)
    (z_list : PySem.W.nsIn K mainGlobals "list" = some none)
    (z_tuple : PySem.W.nsIn K mainGlobals "tuple" = some none)
    (z_int : PySem.W.nsIn K mainGlobals "int" = some none)
    (z_str : PySem.W.nsIn K mainGlobals "str" = some none)
    (z_min : PySem.W.nsIn K mainGlobals "min" = some none)
    (z_range : PySem.W.nsIn K mainGlobals "range" = some none)
    (z_isinstance : PySem.W.nsIn K mainGlobals "isinstance" = some none)
    (z_bool : PySem.W.nsIn K mainGlobals "bool" = some none)
    (z_sum : PySem.W.nsIn K mainGlobals "sum" = some none)
    (z_all : PySem.W.nsIn K mainGlobals "all" = some none)
    (z_any : PySem.W.nsIn K mainGlobals "any" = some none)
    (z_enumerate : PySem.W.nsIn K mainGlobals "enumerate" = some none)
    (z_zip : PySem.W.nsIn K mainGlobals "zip" = some none)
    : ∃ T : Txt K mg, T.f_law = f_law ∧ T.fd_law = PySem.W.fnOf "law" "law" (defArgs s_law) (defBody s_law) (defScope s_law) .none kV dc pm an cd ct := by
  obtain ⟨fd_is_int, F_is_int, b_is_int⟩ := m_is_int
  obtain ⟨fd_is_row, F_is_row, b_is_row⟩ := m_is_row
  obtain ⟨fd_check_int, F_check_int, b_check_int⟩ := m_check_int
  obtain ⟨fd_letters_of, F_letters_of, b_letters_of⟩ := m_letters_of
  obtain ⟨fd_fixed_bits, F_fixed_bits, b_fixed_bits⟩ := m_fixed_bits
  obtain ⟨fd_letters_for, F_letters_for, b_letters_for⟩ := m_letters_for
  obtain ⟨fd_written_line, F_written_line, b_written_line⟩ := m_written_line
  obtain ⟨fd_is_name, F_is_name, b_is_name⟩ := m_is_name
  obtain ⟨fd_first_of, F_first_of, b_first_of⟩ := m_first_of
  obtain ⟨fd_is_pattern, F_is_pattern, b_is_pattern⟩ := m_is_pattern
  obtain ⟨fd_are_patterns, F_are_patterns, b_are_patterns⟩ := m_are_patterns
  obtain ⟨fd_first_wrong, F_first_wrong, b_first_wrong⟩ := m_first_wrong
  obtain ⟨fd_Form_init, F_Form_init, b_Form_init⟩ := m_Form_init
  obtain ⟨fd_Grammar_init, F_Grammar_init, b_Grammar_init⟩ := m_Grammar_init
  obtain ⟨fd_checked_forms, F_checked_forms, b_checked_forms⟩ := m_checked_forms
  obtain ⟨fd_written, F_written, b_written⟩ := m_written
  obtain ⟨fd_Book_init, F_Book_init, b_Book_init⟩ := m_Book_init
  obtain ⟨fd_fixed, F_fixed, b_fixed⟩ := m_fixed
  obtain ⟨fd_begins, F_begins, b_begins⟩ := m_begins
  obtain ⟨fd_is_full, F_is_full, b_is_full⟩ := m_is_full
  obtain ⟨fd_law_draws, F_law_draws, b_law_draws⟩ := m_law_draws
  obtain ⟨fd_law_take, F_law_take, b_law_take⟩ := m_law_take
  obtain ⟨fd_law_is_int, F_law_is_int, b_law_is_int⟩ := m_law_is_int
  obtain ⟨fd_law_letters, F_law_letters, b_law_letters⟩ := m_law_letters
  obtain ⟨fd_law_fits, F_law_fits, b_law_fits⟩ := m_law_fits
  obtain ⟨fd_law_numbers, F_law_numbers, b_law_numbers⟩ := m_law_numbers
  obtain ⟨fd_law_decode, F_law_decode, b_law_decode⟩ := m_law_decode
  obtain ⟨fd_law_patterns, F_law_patterns, b_law_patterns⟩ := m_law_patterns
  obtain ⟨fd_law_bent, F_law_bent, b_law_bent⟩ := m_law_bent
  obtain ⟨fd_law_form_rows, F_law_form_rows, b_law_form_rows⟩ := m_law_form_rows
  obtain ⟨fd_law_clash, F_law_clash, b_law_clash⟩ := m_law_clash
  obtain ⟨fd_law_apart, F_law_apart, b_law_apart⟩ := m_law_apart
  obtain ⟨fd_law_free, F_law_free, b_law_free⟩ := m_law_free
  obtain ⟨fd_law_counted, F_law_counted, b_law_counted⟩ := m_law_counted
  obtain ⟨fd_law_split, F_law_split, b_law_split⟩ := m_law_split
  obtain ⟨fd_law_full_rows, F_law_full_rows, b_law_full_rows⟩ := m_law_full_rows
  obtain ⟨fd_law_is_count, F_law_is_count, b_law_is_count⟩ := m_law_is_count
  have F_law := fun_mk (st := s_law) l_law c_law kp_law
  refine ⟨{
    f_is_int := f_is_int,
    fd_is_int := fd_is_int,
    F_is_int := F_is_int,
    b_is_int := b_is_int,
    g_is_int := PySem.W.mg_of X G a_fn_is_int,
    f_is_row := f_is_row,
    fd_is_row := fd_is_row,
    F_is_row := F_is_row,
    b_is_row := b_is_row,
    g_is_row := PySem.W.mg_of X G a_fn_is_row,
    f_check_int := f_check_int,
    fd_check_int := fd_check_int,
    F_check_int := F_check_int,
    b_check_int := b_check_int,
    g_check_int := PySem.W.mg_of X G a_fn_check_int,
    f_letters_of := f_letters_of,
    fd_letters_of := fd_letters_of,
    F_letters_of := F_letters_of,
    b_letters_of := b_letters_of,
    g_letters_of := PySem.W.mg_of X G a_fn_letters_of,
    f_fixed_bits := f_fixed_bits,
    fd_fixed_bits := fd_fixed_bits,
    F_fixed_bits := F_fixed_bits,
    b_fixed_bits := b_fixed_bits,
    g_fixed_bits := PySem.W.mg_of X G a_fn_fixed_bits,
    f_letters_for := f_letters_for,
    fd_letters_for := fd_letters_for,
    F_letters_for := F_letters_for,
    b_letters_for := b_letters_for,
    g_letters_for := PySem.W.mg_of X G a_fn_letters_for,
    f_written_line := f_written_line,
    fd_written_line := fd_written_line,
    F_written_line := F_written_line,
    b_written_line := b_written_line,
    g_written_line := PySem.W.mg_of X G a_fn_written_line,
    f_is_name := f_is_name,
    fd_is_name := fd_is_name,
    F_is_name := F_is_name,
    b_is_name := b_is_name,
    g_is_name := PySem.W.mg_of X G a_fn_is_name,
    f_first_of := f_first_of,
    fd_first_of := fd_first_of,
    F_first_of := F_first_of,
    b_first_of := b_first_of,
    g_first_of := PySem.W.mg_of X G a_fn_first_of,
    f_is_pattern := f_is_pattern,
    fd_is_pattern := fd_is_pattern,
    F_is_pattern := F_is_pattern,
    b_is_pattern := b_is_pattern,
    g_is_pattern := PySem.W.mg_of X G a_fn_is_pattern,
    f_are_patterns := f_are_patterns,
    fd_are_patterns := fd_are_patterns,
    F_are_patterns := F_are_patterns,
    b_are_patterns := b_are_patterns,
    g_are_patterns := PySem.W.mg_of X G a_fn_are_patterns,
    f_first_wrong := f_first_wrong,
    fd_first_wrong := fd_first_wrong,
    F_first_wrong := F_first_wrong,
    b_first_wrong := b_first_wrong,
    g_first_wrong := PySem.W.mg_of X G a_fn_first_wrong,
    f_Form_init := f_Form_init,
    fd_Form_init := fd_Form_init,
    F_Form_init := F_Form_init,
    b_Form_init := b_Form_init,
    f_Grammar_init := f_Grammar_init,
    fd_Grammar_init := fd_Grammar_init,
    F_Grammar_init := F_Grammar_init,
    b_Grammar_init := b_Grammar_init,
    f_checked_forms := f_checked_forms,
    fd_checked_forms := fd_checked_forms,
    F_checked_forms := F_checked_forms,
    b_checked_forms := b_checked_forms,
    g_checked_forms := PySem.W.mg_of X G a_fn_checked_forms,
    f_written := f_written,
    fd_written := fd_written,
    F_written := F_written,
    b_written := b_written,
    g_written := PySem.W.mg_of X G a_fn_written,
    f_Book_init := f_Book_init,
    fd_Book_init := fd_Book_init,
    F_Book_init := F_Book_init,
    b_Book_init := b_Book_init,
    f_fixed := f_fixed,
    fd_fixed := fd_fixed,
    F_fixed := F_fixed,
    b_fixed := b_fixed,
    g_fixed := PySem.W.mg_of X G a_fn_fixed,
    f_begins := f_begins,
    fd_begins := fd_begins,
    F_begins := F_begins,
    b_begins := b_begins,
    g_begins := PySem.W.mg_of X G a_fn_begins,
    f_is_full := f_is_full,
    fd_is_full := fd_is_full,
    F_is_full := F_is_full,
    b_is_full := b_is_full,
    g_is_full := PySem.W.mg_of X G a_fn_is_full,
    f_law_draws := f_law_draws,
    fd_law_draws := fd_law_draws,
    F_law_draws := F_law_draws,
    b_law_draws := b_law_draws,
    g_law_draws := PySem.W.mg_of X G a_fn_law_draws,
    f_law_take := f_law_take,
    fd_law_take := fd_law_take,
    F_law_take := F_law_take,
    b_law_take := b_law_take,
    g_law_take := PySem.W.mg_of X G a_fn_law_take,
    f_law_is_int := f_law_is_int,
    fd_law_is_int := fd_law_is_int,
    F_law_is_int := F_law_is_int,
    b_law_is_int := b_law_is_int,
    g_law_is_int := PySem.W.mg_of X G a_fn_law_is_int,
    f_law_letters := f_law_letters,
    fd_law_letters := fd_law_letters,
    F_law_letters := F_law_letters,
    b_law_letters := b_law_letters,
    g_law_letters := PySem.W.mg_of X G a_fn_law_letters,
    f_law_fits := f_law_fits,
    fd_law_fits := fd_law_fits,
    F_law_fits := F_law_fits,
    b_law_fits := b_law_fits,
    g_law_fits := PySem.W.mg_of X G a_fn_law_fits,
    f_law_numbers := f_law_numbers,
    fd_law_numbers := fd_law_numbers,
    F_law_numbers := F_law_numbers,
    b_law_numbers := b_law_numbers,
    g_law_numbers := PySem.W.mg_of X G a_fn_law_numbers,
    f_law_decode := f_law_decode,
    fd_law_decode := fd_law_decode,
    F_law_decode := F_law_decode,
    b_law_decode := b_law_decode,
    g_law_decode := PySem.W.mg_of X G a_fn_law_decode,
    f_law_patterns := f_law_patterns,
    fd_law_patterns := fd_law_patterns,
    F_law_patterns := F_law_patterns,
    b_law_patterns := b_law_patterns,
    g_law_patterns := PySem.W.mg_of X G a_fn_law_patterns,
    f_law_bent := f_law_bent,
    fd_law_bent := fd_law_bent,
    F_law_bent := F_law_bent,
    b_law_bent := b_law_bent,
    g_law_bent := PySem.W.mg_of X G a_fn_law_bent,
    f_law_form_rows := f_law_form_rows,
    fd_law_form_rows := fd_law_form_rows,
    F_law_form_rows := F_law_form_rows,
    b_law_form_rows := b_law_form_rows,
    g_law_form_rows := PySem.W.mg_of X G a_fn_law_form_rows,
    f_law_clash := f_law_clash,
    fd_law_clash := fd_law_clash,
    F_law_clash := F_law_clash,
    b_law_clash := b_law_clash,
    g_law_clash := PySem.W.mg_of X G a_fn_law_clash,
    f_law_apart := f_law_apart,
    fd_law_apart := fd_law_apart,
    F_law_apart := F_law_apart,
    b_law_apart := b_law_apart,
    g_law_apart := PySem.W.mg_of X G a_fn_law_apart,
    f_law_free := f_law_free,
    fd_law_free := fd_law_free,
    F_law_free := F_law_free,
    b_law_free := b_law_free,
    g_law_free := PySem.W.mg_of X G a_fn_law_free,
    f_law_counted := f_law_counted,
    fd_law_counted := fd_law_counted,
    F_law_counted := F_law_counted,
    b_law_counted := b_law_counted,
    g_law_counted := PySem.W.mg_of X G a_fn_law_counted,
    f_law_split := f_law_split,
    fd_law_split := fd_law_split,
    F_law_split := F_law_split,
    b_law_split := b_law_split,
    g_law_split := PySem.W.mg_of X G a_fn_law_split,
    f_law_full_rows := f_law_full_rows,
    fd_law_full_rows := fd_law_full_rows,
    F_law_full_rows := F_law_full_rows,
    b_law_full_rows := b_law_full_rows,
    g_law_full_rows := PySem.W.mg_of X G a_fn_law_full_rows,
    f_law_is_count := f_law_is_count,
    fd_law_is_count := fd_law_is_count,
    F_law_is_count := F_law_is_count,
    b_law_is_count := b_law_is_count,
    g_law_is_count := PySem.W.mg_of X G a_fn_law_is_count,
    f_law := f_law,
    fd_law := _,
    F_law := F_law,
    b_law := F_law.binds (ps := ["_law_script"]) fun _ _ _ _ _ _ us hl => match us, hl with | [_], _ => rfl,
    g_law := PySem.W.mg_of X G a_fn_law,
    C_Form := C_Form,
    cl_Form := ⟨pg_Form, hd_Form, po_Form, sa_Form⟩,
    g_Form := PySem.W.mg_of X G aC_Form,
    M_Form := ⟨mkI_Form, a_fn_Form_init, i_Form_init, kc_Form⟩,
    nA_Form_name := nA_Form_name,
    nA_Form_patterns := nA_Form_patterns,
    nA_Form_lines := nA_Form_lines,
    nA_Form_size := nA_Form_size,
    nA_Form_letters := nA_Form_letters,
    nA_Form_effect := nA_Form_effect,
    nA_Form_goto := nA_Form_goto,
    nA_Form_fixed := nA_Form_fixed,
    C_Grammar := C_Grammar,
    cl_Grammar := ⟨pg_Grammar, hd_Grammar, po_Grammar, sa_Grammar⟩,
    g_Grammar := PySem.W.mg_of X G aC_Grammar,
    M_Grammar := ⟨mkI_Grammar, a_fn_Grammar_init, i_Grammar_init, kc_Grammar⟩,
    nA_Grammar_letters := nA_Grammar_letters,
    nA_Grammar_numbers := nA_Grammar_numbers,
    C_Book := C_Book,
    cl_Book := ⟨pg_Book, hd_Book, po_Book, sa_Book⟩,
    g_Book := PySem.W.mg_of X G aC_Book,
    M_Book := ⟨mkI_Book, a_fn_Book_init, i_Book_init, kc_Book⟩,
    nA_Book_word := nA_Book_word,
    nA_Book_registers := nA_Book_registers,
    nA_Book_forms := nA_Book_forms,
    nA_Book__named := nA_Book__named,
    nA_Book__text := nA_Book__text,
    t_LETTERS := t_LETTERS,
    c_LETTERS := PySem.W.mg_of X G ct_LETTERS,
    t_REGISTER_LETTERS := t_REGISTER_LETTERS,
    c_REGISTER_LETTERS := PySem.W.mg_of X G ct_REGISTER_LETTERS,
    t_NUMBER_LETTERS := t_NUMBER_LETTERS,
    c_NUMBER_LETTERS := PySem.W.mg_of X G ct_NUMBER_LETTERS,
    t_MOST_FORMS := t_MOST_FORMS,
    c_MOST_FORMS := PySem.W.mg_of X G ct_MOST_FORMS,
    t_MOST_PATTERNS := t_MOST_PATTERNS,
    c_MOST_PATTERNS := PySem.W.mg_of X G ct_MOST_PATTERNS,
    t_MOST_LINES := t_MOST_LINES,
    c_MOST_LINES := PySem.W.mg_of X G ct_MOST_LINES,
    t_SMALL_LETTERS := t_SMALL_LETTERS,
    c_SMALL_LETTERS := PySem.W.mg_of X G ct_SMALL_LETTERS,
    t_MOST_CELLS := t_MOST_CELLS,
    c_MOST_CELLS := PySem.W.mg_of X G ct_MOST_CELLS,
    a_EFFECTS := a_EFFECTS,
    c_EFFECTS := PySem.W.mg_of X G ca_EFFECTS,
    v_EFFECTS := cv_EFFECTS,
    n_len := PySem.W.mg_none_of X G z_len,
    n_list := PySem.W.mg_none_of X G z_list,
    n_tuple := PySem.W.mg_none_of X G z_tuple,
    n_int := PySem.W.mg_none_of X G z_int,
    n_str := PySem.W.mg_none_of X G z_str,
    n_min := PySem.W.mg_none_of X G z_min,
    n_range := PySem.W.mg_none_of X G z_range,
    n_isinstance := PySem.W.mg_none_of X G z_isinstance,
    n_bool := PySem.W.mg_none_of X G z_bool,
    n_sum := PySem.W.mg_none_of X G z_sum,
    n_all := PySem.W.mg_none_of X G z_all,
    n_any := PySem.W.mg_none_of X G z_any,
    n_enumerate := PySem.W.mg_none_of X G z_enumerate,
    n_zip := PySem.W.mg_none_of X G z_zip }, rfl, rfl⟩
def spL (K : PySem.W.Frag) : Sp := fun vs H Q _ => ∃ (a : Addr) (xs : List Int), vs = [.ref a] ∧ SqL K H a (xs.map V.int) ∧ xs.length ≤ 63 ∧ ∀ H', Q (.bl true) H'
theorem walk {l : PySem.W.OpenLaw} {q : Program} {loose : List Str} {XP : (Str → Option Value) → Heap → Prop} {YP : World → Heap → Prop} {d : DefRec} {K : Params → PySem.W.Frag} (hn : l.most = some 63) (hdf : d.params.defaults = [])
    (hY : ∀ (w : World) (h : Heap), YP w h → (K w.params).In h)
    (F : ∀ (w : World) (mg : Str → Option Value) (fa : Addr) (h : Heap), (K w.params).In h → h.Ns mainGlobals mg → mg d.name = some (.ref fa) →
      ∃ fd : FuncData, (∀ (s : Shared) (u : Value), BindsTo s fd ⟨[u], []⟩ [("_law_script", u)]) ∧ ∀ base : Heap, (K w.params).In base → base.Ns mainGlobals mg → FnOk l.prog w (K w.params) mg base CX0 7 fa fd ["_law_script"] (spL (K w.params))) :
    PySem.W.WalkO q loose XP YP l.row.toRowW d [] (fun f vs => PySem.call f vs) :=
  L2.walk_of (n := 63) (k := 7) (x := "_law_script") (CX := fun _ => CX0) (sp := fun w => spL (K w.params)) hn (by decide) hdf ⟨rfl, by decide, by decide⟩ hY F (fun _ _ a ns hl _ hS => ⟨a, ns, rfl, hS, hl, fun _ => rfl⟩) fun _ _ _ _ _ z => z
/-- the law by what the top has left -/
theorem law_of {P : Program} {w : World} {K : PySem.W.Frag} {mg : Str → Option Value} {fa fl : Addr} {an : Option Addr} {kV dc pm cd ct : Value} (hfa : mg "law" = some (.ref fa))
    (h : ∃ T : Txt K mg, T.f_law = fl ∧ T.fd_law = PySem.W.fnOf "law" "law" (defArgs s_law) (defBody s_law) (defScope s_law) .none kV dc pm an cd ct) :
    ∃ fd : FuncData, (∀ (s : Shared) (u : Value), BindsTo s fd ⟨[u], []⟩ [("_law_script", u)]) ∧ ∀ base : Heap, K.In base → base.Ns mainGlobals mg → FnOk P w K mg base CX0 7 fa fd ["_law_script"] (spL K) := by
  obtain ⟨T, e1, e2⟩ := h
  have e := hfa.symm.trans T.g_law
  cases e
  refine ⟨T.fd_law, fun s v => by rw [e2]; exact .of_eq rfl, fun base _ _ => ?_⟩
  exact ok_law (P := P) (w := w) (base := base) T
end My

open PySem PySem.W PyProof.Rows in
set_option maxRecDepth 100000 in
set_option maxHeartbeats 0 in
theorem PySem.Challenge.cw_selfwritten_k13_rows_that_begin_with_cod_holds : PySem.Challenge.rw_selfwritten_k13_rows_that_begin_with_cod.Holds := by
  w_on; o_law; k_head; (case hw => w_witness2)
  k_fill
  refine My.walk (l := PySem.Challenge.rw_selfwritten_k13_rows_that_begin_with_cod) rfl rfl (fun w h Y => PySem.W.kIn_of Y) ?F
  case F =>
    intro w mg fa h KX G hmg
    refine' My.law_of hmg (My.all_mk KX G ?a_fn_is_int ?m_is_int ?a_fn_is_row ?m_is_row ?a_fn_check_int ?m_check_int ?a_fn_letters_of ?m_letters_of ?a_fn_fixed_bits ?m_fixed_bits ?a_fn_letters_for ?m_letters_for ?a_fn_written_line ?m_written_line ?a_fn_is_name ?m_is_name ?a_fn_first_of ?m_first_of ?a_fn_is_pattern ?m_is_pattern ?a_fn_are_patterns ?m_are_patterns ?a_fn_first_wrong ?m_first_wrong ?a_fn_Form_init ?i_Form_init ?kp_Form_init ?m_Form_init ?a_fn_Grammar_init ?i_Grammar_init ?kp_Grammar_init ?m_Grammar_init ?a_fn_checked_forms ?m_checked_forms ?a_fn_written ?m_written ?a_fn_Book_init ?i_Book_init ?kp_Book_init ?m_Book_init ?a_fn_fixed ?m_fixed ?a_fn_begins ?m_begins ?a_fn_is_full ?m_is_full ?a_fn_law_draws ?m_law_draws ?a_fn_law_take ?m_law_take ?a_fn_law_is_int ?m_law_is_int ?a_fn_law_letters ?m_law_letters ?a_fn_law_fits ?m_law_fits ?a_fn_law_numbers ?m_law_numbers ?a_fn_law_decode ?m_law_decode ?a_fn_law_patterns ?m_law_patterns ?a_fn_law_bent ?m_law_bent ?a_fn_law_form_rows ?m_law_form_rows ?a_fn_law_clash ?m_law_clash ?a_fn_law_apart ?m_law_apart ?a_fn_law_free ?m_law_free ?a_fn_law_counted ?m_law_counted ?a_fn_law_split ?m_law_split ?a_fn_law_full_rows ?m_law_full_rows ?a_fn_law_is_count ?m_law_is_count ?a_fn_law ?l_law ?c_law ?kp_law ?aC_Form ?pg_Form ?hd_Form ?po_Form ?sa_Form ?mkI_Form ?kc_Form ?nA_Form_name ?nA_Form_patterns ?nA_Form_lines ?nA_Form_size ?nA_Form_letters ?nA_Form_effect ?nA_Form_goto ?nA_Form_fixed ?aC_Grammar ?pg_Grammar ?hd_Grammar ?po_Grammar ?sa_Grammar ?mkI_Grammar ?kc_Grammar ?nA_Grammar_letters ?nA_Grammar_numbers ?aC_Book ?pg_Book ?hd_Book ?po_Book ?sa_Book ?mkI_Book ?kc_Book ?nA_Book_word ?nA_Book_registers ?nA_Book_forms ?nA_Book__named ?nA_Book__text ?ct_LETTERS ?ct_REGISTER_LETTERS ?ct_NUMBER_LETTERS ?ct_MOST_FORMS ?ct_MOST_PATTERNS ?ct_MOST_LINES ?ct_SMALL_LETTERS ?ct_MOST_CELLS ?ca_EFFECTS ?cv_EFFECTS ?z_len ?z_list ?z_tuple ?z_int ?z_str ?z_min ?z_range ?z_isinstance ?z_bool ?z_sum ?z_all ?z_any ?z_enumerate ?z_zip)
    (case aC_Form => k_is)
    (case aC_Grammar => k_is)
    (case aC_Book => k_is)
    (case a_fn_is_int => k_is)
    (case m_is_int => (refine' My.mk_is_int ?l ?c ?k; (case l => k_is); (case c => k_is); (case k => k_is)))
    (case a_fn_is_row => k_is)
    (case m_is_row => (refine' My.mk_is_row ?l ?c ?k; (case l => k_is); (case c => k_is); (case k => k_is)))
    (case a_fn_check_int => k_is)
    (case m_check_int => (refine' My.mk_check_int ?l ?c ?k; (case l => k_is); (case c => k_is); (case k => k_is)))
    (case a_fn_letters_of => k_is)
    (case m_letters_of => (refine' My.mk_letters_of ?l ?c ?k; (case l => k_is); (case c => k_is); (case k => k_is)))
    (case a_fn_fixed_bits => k_is)
    (case m_fixed_bits => (refine' My.mk_fixed_bits ?l ?c ?k; (case l => k_is); (case c => k_is); (case k => k_is)))
    (case a_fn_letters_for => k_is)
    (case m_letters_for => (refine' My.mk_letters_for ?l ?c ?k; (case l => k_is); (case c => k_is); (case k => k_is)))
    (case a_fn_written_line => k_is)
    (case m_written_line => (refine' My.mk_written_line ?l ?c ?k; (case l => k_is); (case c => k_is); (case k => k_is)))
    (case a_fn_is_name => k_is)
    (case m_is_name => (refine' My.mk_is_name ?l ?c ?k; (case l => k_is); (case c => k_is); (case k => k_is)))
    (case a_fn_first_of => k_is)
    (case m_first_of => (refine' My.mk_first_of ?l ?c ?k; (case l => k_is); (case c => k_is); (case k => k_is)))
    (case a_fn_is_pattern => k_is)
    (case m_is_pattern => (refine' My.mk_is_pattern ?l ?c ?k; (case l => k_is); (case c => k_is); (case k => k_is)))
    (case a_fn_are_patterns => k_is)
    (case m_are_patterns => (refine' My.mk_are_patterns ?l ?c ?k; (case l => k_is); (case c => k_is); (case k => k_is)))
    (case a_fn_first_wrong => k_is)
    (case m_first_wrong => (refine' My.mk_first_wrong ?l ?c ?k; (case l => k_is); (case c => k_is); (case k => k_is)))
    (case a_fn_Form_init => k_is)
    (case i_Form_init => k_is)
    (case kp_Form_init => k_is)
    (case m_Form_init => (refine' My.mk_Form_init ?l ?c ?k; (case l => k_is); (case c => k_is); (case k => k_is)))
    (case a_fn_Grammar_init => k_is)
    (case i_Grammar_init => k_is)
    (case kp_Grammar_init => k_is)
    (case m_Grammar_init => (refine' My.mk_Grammar_init ?l ?c ?k; (case l => k_is); (case c => k_is); (case k => k_is)))
    (case a_fn_checked_forms => k_is)
    (case m_checked_forms => (refine' My.mk_checked_forms ?l ?c ?k; (case l => k_is); (case c => k_is); (case k => k_is)))
    (case a_fn_written => k_is)
    (case m_written => (refine' My.mk_written ?l ?c ?k; (case l => k_is); (case c => k_is); (case k => k_is)))
    (case a_fn_Book_init => k_is)
    (case i_Book_init => k_is)
    (case kp_Book_init => k_is)
    (case m_Book_init => (refine' My.mk_Book_init ?l ?c ?k; (case l => k_is); (case c => k_is); (case k => k_is)))
    (case a_fn_fixed => k_is)
    (case m_fixed => (refine' My.mk_fixed ?l ?c ?k; (case l => k_is); (case c => k_is); (case k => k_is)))
    (case a_fn_begins => k_is)
    (case m_begins => (refine' My.mk_begins ?l ?c ?k; (case l => k_is); (case c => k_is); (case k => k_is)))
    (case a_fn_is_full => k_is)
    (case m_is_full => (refine' My.mk_is_full ?l ?c ?k; (case l => k_is); (case c => k_is); (case k => k_is)))
    (case a_fn_law_draws => k_is)
    (case m_law_draws => (refine' My.mk_law_draws ?l ?c ?k; (case l => k_is); (case c => k_is); (case k => k_is)))
    (case a_fn_law_take => k_is)
    (case m_law_take => (refine' My.mk_law_take ?l ?c ?k; (case l => k_is); (case c => k_is); (case k => k_is)))
    (case a_fn_law_is_int => k_is)
    (case m_law_is_int => (refine' My.mk_law_is_int ?l ?c ?k; (case l => k_is); (case c => k_is); (case k => k_is)))
    (case a_fn_law_letters => k_is)
    (case m_law_letters => (refine' My.mk_law_letters ?l ?c ?k; (case l => k_is); (case c => k_is); (case k => k_is)))
    (case a_fn_law_fits => k_is)
    (case m_law_fits => (refine' My.mk_law_fits ?l ?c ?k; (case l => k_is); (case c => k_is); (case k => k_is)))
    (case a_fn_law_numbers => k_is)
    (case m_law_numbers => (refine' My.mk_law_numbers ?l ?c ?k; (case l => k_is); (case c => k_is); (case k => k_is)))
    (case a_fn_law_decode => k_is)
    (case m_law_decode => (refine' My.mk_law_decode ?l ?c ?k; (case l => k_is); (case c => k_is); (case k => k_is)))
    (case a_fn_law_patterns => k_is)
    (case m_law_patterns => (refine' My.mk_law_patterns ?l ?c ?k; (case l => k_is); (case c => k_is); (case k => k_is)))
    (case a_fn_law_bent => k_is)
    (case m_law_bent => (refine' My.mk_law_bent ?l ?c ?k; (case l => k_is); (case c => k_is); (case k => k_is)))
    (case a_fn_law_form_rows => k_is)
    (case m_law_form_rows => (refine' My.mk_law_form_rows ?l ?c ?k; (case l => k_is); (case c => k_is); (case k => k_is)))
    (case a_fn_law_clash => k_is)
    (case m_law_clash => (refine' My.mk_law_clash ?l ?c ?k; (case l => k_is); (case c => k_is); (case k => k_is)))
    (case a_fn_law_apart => k_is)
    (case m_law_apart => (refine' My.mk_law_apart ?l ?c ?k; (case l => k_is); (case c => k_is); (case k => k_is)))
    (case a_fn_law_free => k_is)
    (case m_law_free => (refine' My.mk_law_free ?l ?c ?k; (case l => k_is); (case c => k_is); (case k => k_is)))
    (case a_fn_law_counted => k_is)
    (case m_law_counted => (refine' My.mk_law_counted ?l ?c ?k; (case l => k_is); (case c => k_is); (case k => k_is)))
    (case a_fn_law_split => k_is)
    (case m_law_split => (refine' My.mk_law_split ?l ?c ?k; (case l => k_is); (case c => k_is); (case k => k_is)))
    (case a_fn_law_full_rows => k_is)
    (case m_law_full_rows => (refine' My.mk_law_full_rows ?l ?c ?k; (case l => k_is); (case c => k_is); (case k => k_is)))
    (case a_fn_law_is_count => k_is)
    (case m_law_is_count => (refine' My.mk_law_is_count ?l ?c ?k; (case l => k_is); (case c => k_is); (case k => k_is)))
    (case a_fn_law => k_is)
    (case l_law => k_is)
    (case c_law => k_is)
    (case kp_law => k_is)
    (case pg_Form => k_is)
    (case hd_Form => k_is)
    (case po_Form => k_is)
    (case sa_Form => k_is)
    (case mkI_Form => k_is)
    (case kc_Form => k_is)
    (case nA_Form_name => k_is)
    (case nA_Form_patterns => k_is)
    (case nA_Form_lines => k_is)
    (case nA_Form_size => k_is)
    (case nA_Form_letters => k_is)
    (case nA_Form_effect => k_is)
    (case nA_Form_goto => k_is)
    (case nA_Form_fixed => k_is)
    (case pg_Grammar => k_is)
    (case hd_Grammar => k_is)
    (case po_Grammar => k_is)
    (case sa_Grammar => k_is)
    (case mkI_Grammar => k_is)
    (case kc_Grammar => k_is)
    (case nA_Grammar_letters => k_is)
    (case nA_Grammar_numbers => k_is)
    (case pg_Book => k_is)
    (case hd_Book => k_is)
    (case po_Book => k_is)
    (case sa_Book => k_is)
    (case mkI_Book => k_is)
    (case kc_Book => k_is)
    (case nA_Book_word => k_is)
    (case nA_Book_registers => k_is)
    (case nA_Book_forms => k_is)
    (case nA_Book__named => k_is)
    (case nA_Book__text => k_is)
    (case ct_LETTERS => k_is)
    (case ct_REGISTER_LETTERS => k_is)
    (case ct_NUMBER_LETTERS => k_is)
    (case ct_MOST_FORMS => k_is)
    (case ct_MOST_PATTERNS => k_is)
    (case ct_MOST_LINES => k_is)
    (case ct_SMALL_LETTERS => k_is)
    (case ct_MOST_CELLS => k_is)
    (case ca_EFFECTS => k_is)
    (case cv_EFFECTS => (refine' My.tup_kit ?lk ?z ?v; (case lk => k_is); (case z => (show _ ≤ _; decide +kernel)); (case v => exact (.cons ⟨_, rfl⟩ (.cons ⟨_, rfl⟩ (.cons ⟨_, rfl⟩ .nil))))))
    (case z_len => k_is)
    (case z_list => k_is)
    (case z_tuple => k_is)
    (case z_int => k_is)
    (case z_str => k_is)
    (case z_min => k_is)
    (case z_range => k_is)
    (case z_isinstance => k_is)
    (case z_bool => k_is)
    (case z_sum => k_is)
    (case z_all => k_is)
    (case z_any => k_is)
    (case z_enumerate => k_is)
    (case z_zip => k_is)
