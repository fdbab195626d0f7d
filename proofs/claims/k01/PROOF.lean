import PyProof.Rows.All
import Wide.All
import OpenK.AllK
import Wide.FinOn
import HandS.ForMost
import HandS.Exc
import HandS.ExcOwn
import HandS.TryOnly
import HandS.WordsExc
import HandS.IsInst
import HandS.DictComp
import HandS.Conv
import HandS.More
import HandS.SortInts
import HandS.Small
import HandS.Evl
import KE.KBits
import HandS.OwnIter
import HandS.IterNext
import HandS.ExcInit
import HandS.ExcField
import KE.KExcInit
import HandS.Walk
import PySem.Challenge.RW_selfwritten_k01_parts_once_and_their_wor
import KE.KExcLine
set_option Elab.async false
set_option linter.all false
set_option maxRecDepth 100000
set_option maxHeartbeats 4000000
/-! Kit -/
/-! own rules over the hand layer -/
namespace My
open PySem PySem.Spec PyProof.Rows L2
section
variable {X : Cx}
theorem callR_imp {f : Value} {r r' : List V → Hp → VK → Prop} (h : CallR X f r) (i : ∀ xs H Q, r' xs H Q → r xs H Q) : CallR X f r' :=
  fun pins s σ H xs us Q I rv q => h pins s σ H xs us Q I rv (i xs H Q q)
theorem call_intI : CallR X (.type "int") (fun xs H Q => ∃ i, xs = [.int i] ∧ Q (.int i) H) := callR_imp call_int1 fun _ _ _ h => .inl h
theorem call_intB : CallR X (.type "int") (fun xs H Q => ∃ k, xs = [.bl k] ∧ Q (.int (if k then 1 else 0)) H) := callR_imp call_int1 fun _ _ _ h => .inr h
theorem call_lenL : CallR X (.builtin "len") (fun xs H Q => ∃ p ys, xs = [.ref p] ∧ SqL X.K H p ys ∧ Q (.int ys.length) H) := callR_imp call_len_seq fun _ _ _ ⟨p, ys, e, h, q⟩ => ⟨p, ys, e, .inl h, q⟩
theorem call_lenT : CallR X (.builtin "len") (fun xs H Q => ∃ p ys, xs = [.ref p] ∧ SqT X.K H p ys ∧ Q (.int ys.length) H) := callR_imp call_len_seq fun _ _ _ ⟨p, ys, e, h, q⟩ => ⟨p, ys, e, .inr h, q⟩
theorem call_listL : CallR X (.type "list") (fun xs H Q => ∃ p ys, xs = [.ref p] ∧ SqL X.K H p ys ∧ ∀ l, H l = none → Q (.ref l) (upd H l (.lst ys))) := callR_imp call_list_of fun _ _ _ ⟨p, ys, e, h, q⟩ => ⟨p, ys, e, .inl h, q⟩
theorem call_listT : CallR X (.type "list") (fun xs H Q => ∃ p ys, xs = [.ref p] ∧ SqT X.K H p ys ∧ ∀ l, H l = none → Q (.ref l) (upd H l (.lst ys))) := callR_imp call_list_of fun _ _ _ ⟨p, ys, e, h, q⟩ => ⟨p, ys, e, .inr h, q⟩
theorem call_tupleL : CallR X (.type "tuple") (fun xs H Q => ∃ p ys, xs = [.ref p] ∧ SqL X.K H p ys ∧ ∀ l, H l = none → Q (.ref l) (upd H l (.tup ys))) := callR_imp call_tuple_of fun _ _ _ ⟨p, ys, e, h, q⟩ => ⟨p, ys, e, .inl ⟨h, q⟩⟩
theorem call_isTy : CallR X (.builtin "isinstance") (fun xs H Q => ∃ x t c, xs = [x, .ty c] ∧ TyX X.K H x (.type t) ∧ ∃ b, kitB t c = some b ∧ Q (.bl b) H) :=
  callR_imp call_isi fun _ _ _ ⟨x, t, c, e, h, b, k, q⟩ => ⟨x, .ty c, .type t, .type c, b, e, .ty c, h, kit_ty k, q⟩
theorem call_isTy2 : CallR X (.builtin "isinstance") (fun xs H Q => ∃ x t c d tp, xs = [x, .ref tp] ∧ H tp = some (.tup [.ty c, .ty d]) ∧ TyX X.K H x (.type t) ∧ ∃ b b', kitB t c = some b ∧ kitB t d = some b' ∧ Q (.bl (b || b')) H) :=
  callR_imp call_isiT fun _ _ _ ⟨x, t, c, d, tp, e, ht, h, b, b', k, k', q⟩ => ⟨x, tp, [.ty c, .ty d], .type t, [.type c, .type d], (b || b'), e, ht, .cons (.ty c) (.cons (.ty d) .nil), h,
    kitAny_cons (kit_ty k) (fun z => by rw [z]; exact kitAny_cons (kit_ty k') (fun z' => by rw [z']; exact kitAny_nil) (fun z' => by rw [z']; rfl)) (fun z => by rw [z]; rfl), q⟩
theorem k_ii : kitB "int" "int" = some true := by decide +kernel
theorem k_bi : kitB "bool" "int" = some true := by decide +kernel
theorem k_ni : kitB "NoneType" "int" = some false := by decide +kernel
theorem k_si : kitB "str" "int" = some false := by decide +kernel
theorem k_li : kitB "list" "int" = some false := by decide +kernel
theorem k_ib : kitB "int" "bool" = some false := by decide +kernel
theorem k_bb : kitB "bool" "bool" = some true := by decide +kernel
theorem k_ll : kitB "list" "list" = some true := by decide +kernel
theorem k_lt : kitB "list" "tuple" = some false := by decide +kernel
theorem k_tl : kitB "tuple" "list" = some false := by decide +kernel
theorem k_tt : kitB "tuple" "tuple" = some true := by decide +kernel
theorem k_nl : kitB "NoneType" "list" = some false := by decide +kernel
theorem k_nt : kitB "NoneType" "tuple" = some false := by decide +kernel
theorem pe_fldA {e : Expr} {ta : TE} {f : Str} {pos : Pos} (he : PE X e ta) (hb : attributeBase e f X.env (eval e X.env) = eval e X.env := by rfl) : PE X (.Attribute e f pos) (tFld X.K ta f) := pe_fld he hb
/-- X(), X an own exception class without own __init__ -/
theorem pmk_0 {C : Addr} {bmB : List Value} {B newId initId : String} {x : Str} {p pos : Pos} (F : ExcBaseFacts B newId initId bmB) (q : PySem.W.excIn X.K C bmB newId = true) (gC : X.mg x = some (.ref C))
    (kC : PySem.W.keepIn X.K (.ref C) = true) (r : Raises X (.ref C)) (hg : Gl X x) (hdb : (x == ("__debug__" : Str)) = false := by decide) :
    PMk X (.Call (.Name x p) [] [] pos) (fun _ H Q => Q (.ref C) none H) := by
  intro pins s σ H Q I h
  refine wpAny_Call_Name_kw (ld_glob I hg gC ?_ hdb)
  refine PySem.W.callWith_K0 I.kIn kC ?_
  obtain ⟨bm, N, nm, qn, bs, hdct, sn, sub, ab, col, dd, k0, k1, k2, k3, k5, mN, hC, hN, hni, T⟩ := exc_obj I.kIn q
  refine wpAny_call_exc_subT F T hC hN hni (fun h' e hm => ?_) (Nat.zero_le _)
  exact mk_of I hm r h (I.hok.gone hm.new)
theorem sw_trueD {kx vx : Expr} {gs : List Comprehension} {scope : Scope} {pos py : Pos} {y : Str} {l : Nat} {env : Env} (hk : env.scope.kind = .function) (hy : env.scope.names.lookup y = some .local) (hl : (py.line == pos.line) = true)
    (ha : (scope.names.any fun (n, k) => n == y && (k == .local || k == .cell)) = false) : swapsWith (.DictComp kx vx gs scope pos) (some (.Name y py)) l env = pure true := by
  have ky : env.kindOf y = some .local := hy
  have hb : env.blockKind = .function := by unfold Env.blockKind; rw [hk]; rfl
  unfold swapsWith
  simp only [hb, ky, ha, Expr.pos, hl]
  rfl
theorem ps_setDc {i : Nat} {y : Str} {py : Pos} {kx vx tg iter : Expr} {ifs : List Expr} {scope : Scope} {own : List (Str × Nat)} {pos spos : Pos} {wi : TI} {g : TG} {tt : TT} {tk tv : TE} (hc : X.calm = true) (hN : X.N.Nodup) (hy : X.N[i]? = some y) (hyl : X.env.scope.names.lookup y = some .local)
    (hsw : swapsWith (.DictComp kx vx [⟨tg, iter, ifs, 0⟩] scope pos) (some (.Name y py)) spos.line X.env = pure true) (hi : PI X tg iter wi) (ok : BlkOk X.N X.env.scope scope own)
    (hg : ∀ (s : Shared) (H : Hp) (C : Addr) (cl : List (Str × Addr)) (fp : List Addr), PG (X.blk s H scope (compEnvC scope cl C X.env) fp) tg g) (ht : ∀ (s : Shared) (H : Hp) (C : Addr) (cl : List (Str × Addr)) (fp : List Addr), PTs (X.blk s H scope (compEnvC scope cl C X.env) fp) ifs tt)
    (hk : ∀ (s : Shared) (H : Hp) (C : Addr) (cl : List (Str × Addr)) (fp : List Addr), PE (X.blk s H scope (compEnvC scope cl C X.env) fp) kx tk)
    (he : ∀ (s : Shared) (H : Hp) (C : Addr) (cl : List (Str × Addr)) (fp : List Addr), PE (X.blk s H scope (compEnvC scope cl C X.env) fp) vx tv) (hs : ∀ x, foldedSetIterable iter X.env x = pure x := by intro _; rfl) :
    PS X (.Assign [.Name y py] (.DictComp kx vx [⟨tg, iter, ifs, 0⟩] scope pos) spos) (tAsg (tDc wi g tt tk tv (own.map (·.2))) (gName i)) := by
  refine ⟨fun pins s σ H D I h => ?_⟩
  rw [exec_Assign_Name_used _ _ _ _ hsw]
  refine wpAny_bind (wpAny_standAt (wpAny_bind ?_))
  show wpAny _ X.A (do let _ ← comprehension (.DictComp kx vx [⟨tg, iter, ifs, 0⟩] scope pos) scope X.env (firstIterPos [⟨tg, iter, ifs, 0⟩] pos) (newDict #[]) false (eval iter X.env) (some (assign (.Name y py) X.env))) _ _ s
  have h : tDc wi g tt tk tv (own.map (·.2)) σ H (fun x H1 => gName i x σ H1 D.nx) := h
  refine wpAny_bind (thn (dc_core (Qf := fun _ s' => SP X pins D .next s') hc hN I hi ok hg ht hk he hs h fun L C s' m H' I' q hn f => ?_) fun _ s' hq => wpAny_pure (wpAny_pure hq))
  show wpAny _ _ (assign (.Name y py) X.env (.ref L)) _ _ _
  refine wpAny_assign_Name (store_ok2 (v := V.ref L) I' hN hy (.inl hyl) rfl (fun s2 I2 ⟨a, sb, ha⟩ => ?_) (.inr hyl))
  obtain ⟨f0, f1, f2, f3, f4, f5⟩ := f
  have haC : C ≠ a := by
    rcases ha with z | z
    · rw [z]; exact f1
    · exact fun e => f4 y a z e.symm
  refine ⟨m, hn.sameBut sb haC, fun h3 sb3 => ?_⟩
  exact ⟨_, H', I2.turned (t' := s2.toks) (fun b o hb e => (sb3.2 b hb).trans e) f0 f1 f3 f4 f5, q⟩
end
end My

/-! Kit2 -/
/-! len(o), list(o) of an own class with __len__, __iter__ -/
namespace My
open PySem PySem.Spec L2
section
variable {X : Cx} {pins : List (Addr × Obj)} {σ : L2.St} {H : Hp} {s : Shared}
/-- a def called from within a built-in -/
theorem run_in {A1 : Around} {k : Nat} {f : Addr} {fd : FuncData} {sp : Sp} {a : Addr} {Q : VK} {Q' : Value → Shared → Prop} {E' : Value → Shared → Prop} (sb : Sub X k A1) (FL : FnOk X.prog X.w X.K X.mg X.base CX0 k f fd ["self"] sp) (bL : Binds X.K fd ["self"] [])
    (I : Inv X pins σ H s) (hsp : sp [.ref a] H Q E0) (h : ∀ u s' v H', Inv X pins σ H' s' → RelV v u → Q v H' → Q' u s') :
    wpAny (model X.prog X.w) A1 (call (.ref f) [.ref a]) Q' E' s := by
  have e0 : Env0 X.prog X.w X.K X.mg X.base A1 X.stack s H := by
    have e := I.env0
    exact ⟨by rw [sb.fr]; exact e.frames, e.mod, e.bs, e.bsz, e.funs, e.frf, e.hok, e.bare⟩
  have hl := FL.len _ _ _ _ hsp
  have r2 : Vals [V.ref a] [Value.ref a] := .cons rfl .nil
  refine wpAny_call (codeAny_mono (FL.run A1 X.stack s H ⟨[.ref a], []⟩ [.ref a] [.ref a] Q E0 sb.room e0 (by
    have := bL s [.ref a] I.kIn (by simpa using hl)
    simpa using this) r2 hsp) fun r s' hq => ?_)
  cases r with
  | error e => exact False.elim hq
  | ok fl =>
    cases fl with
    | ret u =>
      obtain ⟨v, H', I', rv, q⟩ := I.after hq
      exact h u s' v H' I' rv q
    | next => exact False.elim hq
    | brk => exact False.elim hq
    | cont => exact False.elim hq
theorem len_in {A : Around} {k : Nat} {C f a dx : Addr} {fs : List (Str × V)} {fd : FuncData} {sp : Sp} {n : Nat} {Q : Value → Shared → Prop} {E' : Value → Shared → Prop} (hl : PySem.W.findIn X.K (.ref C) "__len__" = some (some (.ref f))) (hf : PySem.W.typeIn X.K (.ref f) = some (.type "function"))
    (FL : FnOk X.prog X.w X.K X.mg X.base CX0 k f fd ["self"] sp) (bL : Binds X.K fd ["self"] []) (sb : Sub X (k + 1) A) (I : Inv X pins σ H s) (ha : H a = some (.ins C dx fs)) (hn : n < 2 ^ 63)
    (hsp : sp [.ref a] H (fun v H' => v = .int n ∧ H' = H) E0) (h : ∀ t s', Inv X pins σ H s' → Q (.int n t) s') : wpAny (model X.prog X.w) A (call (.builtin "len") [.ref a]) Q E' s := by
  obtain ⟨mA, J, _⟩ := ins_get I.hok ha
  obtain ⟨od, J, _⟩ := J.look
  refine Calls.call_function_entry kind_len plain_len entry_len (args_len1 _) ?_
  unfold Builtin.«len»
  refine wpAny_bind (m := oneArg "len" _) (wpAny_pure ?_)
  refine wpAny_bind (m := callSpecial? (.ref a) (Str.ofString "__len__")) (PySem.W.special_fn I.kIn J hl hf ?_)
  refine run_in sb.in1 FL bL I hsp fun u s' v H' I' rv q => ?_
  obtain ⟨ev, eH⟩ := q
  subst ev
  rw [eH] at I'
  obtain ⟨t, rfl⟩ := rv
  refine wpAny_bind (wpAny_holding (wpAny_pure ?_))
  refine wpAny_bind (wpAny_letGo ?_)
  show wpAny _ _ (if (n : Int) < 0 then _ else _) _ _ _
  rw [if_neg (by omega)]
  show wpAny _ _ (if (n : Int) ≥ 2 ^ 63 then _ else _) _ _ _
  rw [if_neg (by omega)]
  exact wpAny_bind (wpAny_mkInt (wpAny_pure ⟨_, rfl, h _ _ (I'.tok _)⟩))
theorem call_lenOwn {k : Nat} {C f : Addr} {fd : FuncData} {sp : Sp} (hl : PySem.W.findIn X.K (.ref C) "__len__" = some (some (.ref f))) (hf : PySem.W.typeIn X.K (.ref f) = some (.type "function"))
    (FL : FnOk X.prog X.w X.K X.mg X.base CX0 k f fd ["self"] sp) (bL : Binds X.K fd ["self"] []) (hr : Room (k + 1) X.A) :
    CallR X (.builtin "len") (fun xs H Q => ∃ a dx fs n, xs = [.ref a] ∧ H a = some (.ins C dx fs) ∧ sp [.ref a] H (fun v H' => v = .int (n : Nat) ∧ H' = H) E0 ∧ n < 2 ^ 63 ∧ Q (.int n) H) := by
  intro pins s σ H xs us Q I rv h
  obtain ⟨a, dx, fs, n, rfl, ha, hsp, hn, q⟩ := h
  obtain ⟨u, rfl, ru⟩ := rv.one
  cases ru
  exact len_in hl hf FL bL ⟨hr, rfl⟩ I ha hn hsp fun t s' I' => ⟨.int n, H, I', ⟨_, rfl⟩, q⟩
/-- at it: an iterator over the list at l -/
def ItX (l it : Addr) (i : Nat) : HO := .ext fun h => h.IsListIter it l i
def AnyO (a : Addr) : HO := .ext fun h => ∃ o, h.get? a = some o
theorem itX_ok {P : Program} {w : World} {H : Hp} {h : Heap} {l it : Addr} {i : Nat} (e : h.IsListIter it l i) : ObjOk P w H h it (ItX l it i) := by
  obtain ⟨o, e1, e2, e3⟩ := e
  exact ⟨⟨o, e1, e2, e3⟩, ⟨_, e1⟩, fun h1 h2 q k => by obtain ⟨o', q1, q2, q3⟩ := q; exact ⟨o', k _ q1, q2, q3⟩⟩
theorem anyO_ok {P : Program} {w : World} {H : Hp} {h : Heap} {a : Addr} (e : ∃ o, h.get? a = some o) : ObjOk P w H h a (AnyO a) :=
  ⟨e, e, fun h1 h2 q k => by obtain ⟨o', q1⟩ := q; exact ⟨o', k _ q1⟩⟩
theorem next_end2 {prog : Program} {w : World} {A : Around} {E : Value → Shared → Prop} {s : Shared} {it l : Addr} {i : Nat} {items} {Q : Option Value → Shared → Prop} (hh : A.handled = none)
    (hit : s.heap.IsListIter it l i) (hl : s.heap.IsList l items) (hx : items[i]? = none)
    (hQ : ∀ h', Heap.ExtBut it s.heap h' → (∃ o, h'.get? it = some o) → Q none { s with heap := h' }) : wpAny (model prog w) A (pyNext (.ref it)) Q E s := by
  obtain ⟨o, ho, hc, hd⟩ := id hit
  obtain ⟨ol, hol, _, nl, hdl⟩ := hl
  unfold pyNext
  refine wpAny_bind (wpAny_attempt (wpAny_callSpecial?_slot (name := Str.ofString "__next__") hit.typeIs slot_listiter_next
    (wpAny_call_entry slot_listiter_next hit.typeIs entry_listiter_next ?_ (args_listiter_next _))))
  show wpAny _ _ (field (.ref it) 0 >>= _) _ _ s
  refine wpAny_bind (wpAny_field ho hd (x := .ref l) rfl ?_)
  show wpAny _ _ (if (Value.ref l == Value.none) = true then _ else _) _ _ s
  rw [if_neg (show ¬ ((Value.ref l == Value.none) = true) from Bool.false_ne_true)]
  show wpAny _ _ (field (.ref it) 1 >>= _) _ _ s
  refine wpAny_bind (wpAny_field ho hd (x := .int i 0) rfl ?_)
  show wpAny _ _ (seqItems? (.ref l) >>= _) _ _ s
  refine wpAny_bind (wpAny_seqItems hol hdl ?_)
  simp only [Int.toNat_natCast, hx]
  refine wpAny_bind (wpAny_rule (wpAny_bind (wpAny_setField ho hd (by simp) ?_)))
  show wpAny _ _ (newExc (.type "StopIteration") [] >>= _) _ _ _
  refine wpAny_bind ?_
  simp only [newExc, newTuple]
  refine wpAny_bind (wpAny_newObj_type ?_ (by size_fits))
  refine wpAny_bind (m := firstArgMember _ _) (wpAny_of_eq (a := Value.none) (by first | rfl | (simp only [firstArgMember]; rfl)) ?_)
  refine wpAny_newObj_type ?_ (by size_fits)
  simp only [raiseNew]
  refine wpAny_bind (wpAny_handled ?_)
  rw [show A.in1.handled = none from hh]
  refine wpAny_bind (wpAny_pure (wpAny_throw ?_))
  refine wpAny_bind (wpAny_isInstance (T := "StopIteration") (b := true) ⟨_, Heap.get?_push_size _ rfl, rfl⟩ isSubtype_stop ?_)
  refine wpAny_pure (hQ _ (((Heap.SameBut.update ..).extBut.push _).push _) ⟨_, Heap.get?_push_of_some _ (Heap.get?_push_of_some _ (Heap.get?_update_self _ ho (Obj.isFreed_of_fields (Obj.data_mapFields hd _))))⟩)
theorem list_loop {A1 : Around} {it l q : Addr} {ys : List V} {H0 : Hp} {Rs : Result → Shared → Prop} (hh : A1.handled = none) (hil : l ≠ it) (hiq : q ≠ it) (hlq : l ≠ q) (hz : ys.length < sizeLine)
    (hdone : ∀ H s, Inv X pins σ H s → (∀ b, b ≠ it → b ≠ q → H b = H0 b) → H q = some (.lst ys) → Rs (.ok (.ret .none)) s) :
    ∀ (m i : Nat) (H : Hp) (s : Shared), m = ys.length - i → i ≤ ys.length → Inv X pins σ H s → (∀ b, b ≠ it → b ≠ q → H b = H0 b) → H l = some (.lst ys) → H it = some (ItX l it i) → H q = some (.lst (ys.take i)) →
      codeAny (model X.prog X.w) A1 (.builtin "list.extend.loop" ⟨[.ref q, .ref it, .none], []⟩) Rs s := by
  intro m
  induction m with
  | zero =>
    intro i H s hm hi I hk hl hit hq
    refine codeAny_builtin PySem.F.entry_extend_loop ?_
    rw [Around.under_plainId PySem.F.plain_extend_loop _]
    show wpAny _ A1.in1 (pyNext (.ref it) >>= _) _ _ s
    have hin : s.heap.IsListIter it l i := (I.hok it _ hit).1
    obtain ⟨its, rv, p, _⟩ := I.list (SqL.of hl)
    have hlen := rv.length
    refine wpAny_bind (next_end2 hh hin p.isList (by simp; omega) fun h' eb he => ?_)
    have I2 : Inv X pins σ (upd H it (AnyO it)) { s with heap := h' } := I.write (t' := s.toks) (x := it) (e := it) (o := AnyO it) (by rw [hit]; exact True.intro) (.inl rfl) (fun b o hb e => eb b o hb e) he (anyO_ok he)
    have ei : i = ys.length := by omega
    refine wpAny_pure (hdone _ _ I2 (fun b h1 h2 => by rw [upd_ne h1]; exact hk b h1 h2) ?_)
    rw [upd_ne hiq, hq, ei, List.take_length]
  | succ m ih =>
    intro i H s hm hi I hk hl hit hq
    refine codeAny_builtin PySem.F.entry_extend_loop ?_
    rw [Around.under_plainId PySem.F.plain_extend_loop _]
    show wpAny _ A1.in1 (pyNext (.ref it) >>= _) _ _ s
    have hin : s.heap.IsListIter it l i := (I.hok it _ hit).1
    obtain ⟨its, rv, p, _⟩ := I.list (SqL.of hl)
    have hlt : i < ys.length := by omega
    obtain ⟨u, hu, ru⟩ := rv.get (List.getElem?_eq_getElem hlt)
    refine wpAny_bind (wpAny_pyNext_list_item hin p.isList (x := u) (by simpa using hu) fun h' st' sb => ?_)
    obtain ⟨o', e1, _⟩ := id st'
    have I2 : Inv X pins σ (upd H it (ItX l it (i + 1))) { s with heap := h' } := I.write (t' := s.toks) (x := it) (e := it) (o := ItX l it (i + 1)) (by rw [hit]; exact True.intro) (.inl rfl) (fun b o hb e => (sb.2 b hb).trans e) ⟨_, e1⟩ (itX_ok st')
    have hq2 : upd H it (ItX l it (i + 1)) q = some (.lst (ys.take i)) := by rw [upd_ne hiq]; exact hq
    show wpAny _ A1.in1 (updateSeq q (·.push u) >>= _) _ _ _
    obtain ⟨z, its2, k, r2, hl2, e⟩ := I2.lstM hq2
    have hl3 : (ys.take i).length < sizeLine := by rw [List.length_take]; omega
    refine wpAny_bind (wpAny_updateSeq e rfl (wpAny_pure ⟨plainId_quiet PySem.F.plain_extend_loop _, ?_⟩) (by rw [List.size_toArray]; omega) (by show (its2.toArray.push u).size ≤ sizeLine + 1; rw [Array.size_push, List.size_toArray]; omega))
    have et : ys.take (i + 1) = ys.take i ++ [ys[i]] := by rw [List.take_add_one, List.getElem?_eq_getElem hlt]; rfl
    refine ih (i + 1) _ _ (by omega) hlt (I2.lset (ys := ys.take (i + 1)) (its' := its2 ++ [u]) (t' := s.toks) hq2 e (by simp) (by rw [et]; exact r2.append (.cons ru .nil)) (by rw [List.length_take]; omega)) (fun b h1 h2 => ?_) ?_ ?_ upd_same
    · rw [upd_ne h2, upd_ne h1]; exact hk b h1 h2
    · rw [upd_ne hlq, upd_ne hil]; exact hl
    · rw [upd_ne hiq.symm, upd_same]
theorem hint_own {A : Around} {k : Nat} {C fl a dx : Addr} {fs : List (Str × V)} {fd : FuncData} {sp : Sp} {n : Nat} {Q : Bool → Shared → Prop} {E' : Value → Shared → Prop} (hl : PySem.W.findIn X.K (.ref C) "__len__" = some (some (.ref fl))) (hf : PySem.W.typeIn X.K (.ref fl) = some (.type "function"))
    (FL : FnOk X.prog X.w X.K X.mg X.base CX0 k fl fd ["self"] sp) (bL : Binds X.K fd ["self"] []) (sb : Sub X (k + 1) A) (I : Inv X pins σ H s) (ha : H a = some (.ins C dx fs)) (hn : n < sizeLine)
    (hsp : sp [.ref a] H (fun v H' => v = .int n ∧ H' = H) E0) (h : ∀ b s', Inv X pins σ H s' → Q b s') : wpAny (model X.prog X.w) A (Builtin.List.listLengthHint (.ref a)) Q E' s := by
  obtain ⟨mA, J, _⟩ := ins_get I.hok ha
  obtain ⟨od, J, _⟩ := J.look
  unfold Builtin.List.listLengthHint
  refine wpAny_bind (wpAny_bind (J.type.here ((PySem.W.looks_findIn I.kIn hl).here ?_)))
  refine PySem.W.KFB.if_not rfl ?_
  refine PySem.W.KFB.if_so rfl ?_
  refine wpAny_bind (wpAny_rule ?_)
  have hs : sizeLine = 16777216 := sizeLine_eq
  refine wpAny_bind (wpAny_attempt (len_in hl hf FL bL sb I ha (by omega) hsp fun t s' I' => ?_))
  show wpAny _ _ (if Builtin.List.listTooLong (n : Int).toNat = true then _ else pure ((n : Int) != 0)) _ _ _
  have hz : Builtin.List.listTooLong (n : Int).toNat = false := notLongL (by rw [Int.toNat_natCast]; omega)
  rw [if_neg (by rw [hz]; exact Bool.false_ne_true)]
  exact wpAny_pure (h _ _ I')
theorem call_listOwn2 {k : Nat} {C fi fl : Addr} {fdI fdL : FuncData} {spI spL : Sp} (hit : PySem.W.findIn X.K (.ref C) "__iter__" = some (some (.ref fi))) (hiF : PySem.W.isFn X.K (.ref fi) = true)
    (hl : PySem.W.findIn X.K (.ref C) "__len__" = some (some (.ref fl))) (hf : PySem.W.typeIn X.K (.ref fl) = some (.type "function"))
    (FI : FnOk X.prog X.w X.K X.mg X.base CX0 k fi fdI ["self"] spI) (bI : Binds X.K fdI ["self"] []) (FL : FnOk X.prog X.w X.K X.mg X.base CX0 k fl fdL ["self"] spL) (bL : Binds X.K fdL ["self"] []) (hc : X.calm = true) (hr : Room (k + 3) X.A) :
    CallR X (.type "list") (fun xs H Q => ∃ a dx fs l ys, xs = [.ref a] ∧ H a = some (.ins C dx fs) ∧ H l = some (.lst ys) ∧ ys.length < sizeLine ∧
      (∀ H1, Same H H1 → spI [.ref a] H1 (fun v H' => ∃ it, v = .ref it ∧ H1 it = none ∧ H' = upd H1 it (ItO l it 0)) E0 ∧ spL [.ref a] H1 (fun v H' => v = .int (ys.length : Nat) ∧ H' = H1) E0) ∧
      ∀ q H', H q = none → Same H H' → H' q = some (.lst ys) → Q (.ref q) H') := by
  intro pins s σ H xs us Q I rv h
  obtain ⟨a, dx, fs, l, ys, rfl, ha, hL, hz, hsp, hq⟩ := h
  obtain ⟨u, rfl, ru⟩ := rv.one
  cases ru
  have sb : Sub X (k + 1) X.A.in1.in1 := (Sub.in1 (Sub.in1 (⟨hr, rfl⟩ : Sub X (k + 3) X.A)))
  have sb0 : Sub X k X.A.in1.in1 := sb.mono (Nat.le_succ _)
  refine callType_codes (Q₁ := fun obj s₁ => obj = .ref s.heap.objs.size ∧ s₁ = { s with heap := s.heap.push { cls := .type "list", data := .seq #[] } }) PySem.F.called_list (PySem.F.typeCall_list_1 _) PySem.F.entry_list_init
    (code_list_new _ ⟨rfl, rfl⟩) fun obj s₁ h₁ => ?_
  obtain ⟨rfl, rfl⟩ := h₁
  have hS : (s.heap.push { cls := .type "list", data := .seq #[] }).get? s.heap.objs.size = some { cls := .type "list", data := .seq #[] } := Heap.get?_push_size _ rfl
  refine ⟨⟨_, hS, rfl⟩, PySem.F.args_list_init_2 _ _, ?_⟩
  have fr : H s.heap.objs.size = none := I.hok.fresh (Nat.le_refl _)
  generalize hqe : s.heap.objs.size = q at *
  have I1 : Inv X pins σ (upd H q (.lst [])) { s with heap := s.heap.push { cls := .type "list", data := .seq #[] } } := by
    have := I.lnew (its := []) (ys := []) (t' := s.toks) .nil (Nat.zero_le _)
    rw [hqe] at this
    exact this
  show wpAny _ _ (do let old ← Builtin.List.listItems (.ref q); Builtin.List.listUpdate (.ref q) (fun _ => #[]); letGo old.toList.reverse; Builtin.List.listExtendWith (.ref q) (.ref a) .none) _ _ _
  refine wpAny_bind ?_
  unfold Builtin.List.listItems
  refine wpAny_bind (wpAny_seqItems hS rfl (wpAny_pure ?_))
  show wpAny _ _ (updateSeq q (fun _ => #[]) >>= fun _ => letGo (#[] : Array Value).toList.reverse >>= fun _ => Builtin.List.listExtendWith (.ref q) (.ref a) .none) _ _ _
  refine wpAny_bind (wpAny_updateSeq hS rfl ?_)
  have I2 := I1.lset (f := fun _ => #[]) (its := []) (its' := []) (ys := []) (t' := s.toks) upd_same hS rfl .nil (Nat.zero_le _)
  rw [upd_upd] at I2
  refine wpAny_bind (wpAny_letGo ?_)
  have s2 : Same H (upd H q (.lst [])) := fun b o e => by rw [upd_ne (ne_of_none e fr)]; exact e
  have ha2 := s2 _ _ ha
  have hne : q ≠ a := (ne_of_none ha fr).symm
  have hql : l ≠ q := ne_of_none hL fr
  obtain ⟨mA, J, _⟩ := ins_get I2.hok ha2
  obtain ⟨od, J, _⟩ := J.look
  obtain ⟨m0, hF⟩ := I2.fr
  unfold Builtin.List.listExtendWith
  refine wpAny_bind (J.type.here ?_)
  have h1 : Builtin.List.listSameRef (.ref q) (.ref a) = false := by simp [Builtin.List.listSameRef, hne]
  have h2 : (Value.ref C == Value.type "list") = false := rfl
  have h3 : (Value.ref C == Value.type "tuple") = false := rfl
  simp only [h1, h2, h3, Bool.or_false, Bool.false_eq_true, if_false]
  obtain ⟨hspI, hspL⟩ := hsp _ s2
  refine wpAny_bind (PySem.W.owit_iter hF I2.ok.mod.kin J hit hiF ?_)
  refine run_in sb0 FI bI I2 hspI fun u s' v H' I' rv q' => ?_
  obtain ⟨it, ev, hn, eH⟩ := q'
  subst ev
  subst eH
  cases rv
  have hin : s'.heap.IsListIter it l 0 := by
    have e := itO_get I' upd_same
    exact ⟨_, e, rfl, rfl⟩
  unfold PySem.W.OwitIt
  refine wpAny_bind (wpAny_typeOf hin.typeIs ?_)
  rw [slot_listiter_next.lookup]
  refine wpAny_pure ?_
  have qit : q ≠ it := ne_of_none (show upd H q (.lst []) q = some _ from upd_same) hn
  have lit : l ≠ it := ne_of_none (s2 _ _ hL) hn
  have ait : a ≠ it := ne_of_none ha2 hn
  -- the iterator, tracked by what is asked of it
  have I3 : Inv X pins σ (upd (upd H q (.lst [])) it (ItX l it 0)) s' := by
    have := I'.write (t' := s'.toks) (h' := s'.heap) (x := it) (e := it) (o := ItX l it 0) (by rw [upd_same]; exact True.intro) (.inl rfl) (fun _ _ _ e => e) (by obtain ⟨o, e, _⟩ := hin; exact ⟨o, e⟩) (itX_ok hin)
    rw [upd_upd] at this
    exact this
  have s3 : Same H (upd (upd H q (.lst [])) it (ItX l it 0)) := fun b o e => by rw [upd_ne (ne_of_none (s2 _ _ e) hn)]; exact s2 _ _ e
  obtain ⟨_, hspL3⟩ := hsp _ s3
  refine wpAny_bind (wpAny_holding (hint_own hl hf FL bL sb I3 (s3 _ _ ha) hz hspL3 fun b s4 I4 => ?_))
  have go : ∀ s5 : Shared, Inv X pins σ (upd (upd H q (.lst [])) it (ItX l it 0)) s5 →
      codeAny (model X.prog X.w) X.A.in1 (.builtin "list.extend.loop" ⟨[.ref q, .ref it, .none], []⟩) (wants (fun r s₂ => r = .none ∧ EP X pins σ Q (.ref q) s₂) X.xe) s5 := fun s5 I5 => by
    refine list_loop (H0 := H) (ys := ys) (show X.A.in1.handled = none from I.ok.hd hc) lit qit hql hz (fun H6 s6 I6 hk hq6 => ⟨rfl, .ref q, H6, I6, rfl, hq q H6 fr (fun b o e => ?_) hq6⟩) _ 0 _ s5 rfl (Nat.zero_le _) I5 (fun b h1 h2 => by rw [upd_ne h1, upd_ne h2]) (s3 _ _ hL) upd_same (by rw [upd_ne qit, upd_same]; rfl)
    rw [hk b (ne_of_none (s2 _ _ e) hn) (ne_of_none e fr)]
    exact e
  have hq4 : upd (upd H q (.lst [])) it (ItX l it 0) q = some (.lst []) := by rw [upd_ne qit, upd_same]
  obtain ⟨z, its, k3, r3, hl3, e3⟩ := I4.lstM hq4
  cases r3
  refine wpAny_ite_split (fun _ => ?_) (fun _ => wpAny_pure ⟨plainId_quiet PySem.F.plain_extend_loop _, go _ I4⟩)
  refine wpAny_bind (wpAny_rule ?_)
  refine wpAny_bind ?_
  show wpAny _ _ (updateSeq q (·.push .none) >>= fun _ => updateSeq q (·.pop)) _ _ _
  refine wpAny_bind (wpAny_updateSeq e3 rfl ?_)
  have I5 := I4.lset (f := (·.push Value.none)) (its' := [Value.none]) (ys := [.non]) (t' := s4.toks) hq4 e3 (by simp) (.cons rfl .nil) (by rw [List.length_singleton, sizeLine_eq]; decide)
  obtain ⟨z4, its4, k4, r4, hl4, e4⟩ := I5.lstM upd_same
  obtain ⟨u4, rfl, ru4⟩ := r4.one
  refine wpAny_updateSeq e4 rfl ?_ (by show 1 ≤ sizeLine; rw [sizeLine_eq]; decide) (by show 0 ≤ sizeLine + 1; exact Nat.zero_le _)
  refine wpAny_pure ⟨plainId_quiet PySem.F.plain_extend_loop _, go _ ?_⟩
  have I6 := I5.lset (f := (·.pop)) (its := [u4]) (its' := []) (ys := []) (t' := s4.toks) upd_same e4 (by rfl) .nil (Nat.zero_le _)
  rw [upd_upd] at I6
  have hH : upd (upd (upd H q (.lst [])) it (ItX l it 0)) q (.lst []) = upd (upd H q (.lst [])) it (ItX l it 0) := by
    funext b
    by_cases hb : b = q
    · rw [hb, upd_same, upd_ne qit, upd_same]
    · rw [upd_ne hb]
  rw [hH] at I6
  exact I6
end
end My

/-! M -/
/-! terms: parts, pools, their words; plain Lean -/
namespace My
open PySem L2
theorem gN {i : Nat} {v : V} {σ : L2.St} {H : Hp} {Q : L2.St → Hp → Prop} (h : Q (σ.set i (some v)) H) : gName i v σ H Q := h
theorem seqT {t u : TS} {D : Ends} {σ : L2.St} {H : Hp} (h : t { D with nx := u D } σ H) : tSeq t u D σ H := h
theorem iteN {c A B : Prop} [Decidable c] (h : ¬ c) (b : B) : if c then A else B := by rw [if_neg h]; exact b
theorem iteP {c A B : Prop} [Decidable c] (h : c) (a : A) : if c then A else B := by rw [if_pos h]; exact a
theorem dT {p : Prop} [Decidable p] (h : p) : decide p = true := decide_eq_true h
theorem dF {p : Prop} [Decidable p] (h : ¬ p) : ¬ decide p = true := fun z => h (of_decide_eq_true z)
theorem ite2d {p A B : Prop} [Decidable p] (h1 : p → A) (h2 : ¬ p → B) : if decide p = true then A else B := by
  by_cases h : p
  · rw [if_pos (decide_eq_true h)]; exact h1 h
  · rw [if_neg (dF h)]; exact h2 h
theorem nT {b : Bool} (h : ¬ b = true) : (!b) = true := by cases b <;> simp_all
theorem nF {b : Bool} (h : b = true) : ¬ (!b) = true := by cases b <;> simp_all
theorem cpow1 {n : Int} (h0 : 0 ≤ n) (h : n ≤ 1000) : CPow 1 n := ⟨h0, by omega, by decide⟩
theorem cpow10 : CPow 10 18 := ⟨by decide, by decide, by decide⟩
theorem cdiv {i j : Int} (h0 : 0 < j) (h : j < 1073741824) : CDiv i j := ⟨h0, h⟩
theorem two_pos (n : Int) : (0 : Int) < 1 * 2 ^ n.toNat := by rw [Int.one_mul]; exact Int.pow_pos (by decide)
inductive Op | add | sub | and | or | xor | less | same deriving DecidableEq
def Op.s : Op → Str | .add => "add" | .sub => "sub" | .and => "and" | .or => "or" | .xor => "xor" | .less => "less" | .same => "same"
def opI (w : Nat) : Op → Int → Int → Int
  | .add, x, y => (x + y) % 2 ^ w
  | .sub, x, y => (x - y) % 2 ^ w
  | .and, x, y => Builtin.bitAnd x y
  | .or, x, y => Builtin.bitOr x y
  | .xor, x, y => Builtin.bitXor x y
  | .less, x, y => if x < y then 1 else 0
  | .same, x, y => if x = y then 1 else 0
theorem mask_eq (x : Int) (n : Nat) : Builtin.bitAnd x (1 * 2 ^ (n : Int).toNat - 1) = x % 2 ^ n := by
  rw [Int.one_mul, Int.toNat_natCast]; exact PySem.W.kbt_mask x n
inductive Part | num (v : Int) | get (i : Int) | op (o : Op) (a b : Nat) deriving DecidableEq
def Part.vals : Part → List V
  | .num v => [.str "num", .int v] | .get i => [.str "get", .int i] | .op o a b => [.str o.s, .int a, .int b]
def Part.key : Part → List Key
  | .num v => [.inr "num", .inl v] | .get i => [.inr "get", .inl i] | .op o a b => [.inr o.s, .inl a, .inl b]
theorem key_vals (p : Part) : p.key.map kV = p.vals := by cases p <;> rfl
theorem op_inj {o o' : Op} (h : o.s = o'.s) : o = o' := by
  cases o <;> cases o' <;> first | rfl | (exact absurd h (by decide +kernel))
theorem num_get : ¬ (("num" : Str) = "get") := by decide +kernel
theorem key_inj {p q : Part} (h : p.key = q.key) : p = q := by
  cases p <;> cases q <;> simp [Part.key] at h
  · exact congrArg _ h
  · exact absurd h.1 num_get
  · exact absurd h.1.symm num_get
  · exact congrArg _ h
  · obtain ⟨h1, h2, h3⟩ := h
    have h2 := Int.ofNat.inj h2
    have h3 := Int.ofNat.inj h3
    rw [op_inj h1, h2, h3]
theorem vals_inj {p q : Part} (h : p.vals = q.vals) : p = q := by
  cases p <;> cases q <;> simp [Part.vals] at h
  · exact congrArg _ h
  · exact absurd h.1 num_get
  · exact absurd h.1.symm num_get
  · exact congrArg _ h
  · obtain ⟨h1, h2, h3⟩ := h
    have h2 := Int.ofNat.inj h2
    have h3 := Int.ofNat.inj h3
    rw [op_inj h1, h2, h3]
/-- made or found -/
def mk (ps : List Part) (p : Part) : Nat × List Part := if p ∈ ps then (ps.idxOf p, ps) else (ps.length, ps ++ [p])
def numd (ps : List Part) : List (List Key × V) := ps.zipIdx.map fun x => (x.1.key, .int (x.2 : Nat))
theorem numd_snoc (ps : List Part) (p : Part) : numd (ps ++ [p]) = numd ps ++ [(p.key, .int (ps.length : Nat))] := by
  unfold numd
  rw [List.zipIdx_append, List.map_append]
  simp
theorem numd_len (ps : List Part) : (numd ps).length = ps.length := by unfold numd; simp
theorem valV_numd (p : Part) : ∀ ps : List Part, valV (numd ps) p.key = if p ∈ ps then some (.int (ps.idxOf p : Nat)) else none := by
  have gen : ∀ (ps : List Part) (k : Nat), valV ((ps.zipIdx k).map fun x => (x.1.key, V.int (x.2 : Nat))) p.key = if p ∈ ps then some (.int ((k + ps.idxOf p : Nat) : Int)) else none := by
    intro ps
    induction ps with
    | nil => intro k; rfl
    | cons q r ih =>
      intro k
      rw [List.zipIdx_cons, List.map_cons]
      by_cases e : q = p
      · subst e
        rw [valV_pos rfl, if_pos List.mem_cons_self, List.idxOf_cons_self]
        rfl
      · rw [valV_neg (fun z => e (key_inj z)), ih (k + 1)]
        by_cases m : p ∈ r
        · have ee : (q == p) = false := by simpa using e
          rw [if_pos m, if_pos (List.mem_cons_of_mem _ m), List.idxOf_cons, ee]
          simp only [Option.some.injEq, V.int.injEq, cond_false]
          omega
        · rw [if_neg m, if_neg (fun z => m ((List.mem_cons.mp z).resolve_left (fun y => e y.symm)))]
  intro ps
  have := gen ps 0
  simp only [Nat.zero_add] at this
  exact this
/-! ### what is shortened -/
inductive Sh | one | other | zero | unit | no deriving DecidableEq
def Sh.v : Sh → V | .one => .str "one" | .other => .str "other" | .zero => .str "zero" | .unit => .str "unit" | .no => .non
def shTwice : Op → Sh | .sub => .zero | .xor => .zero | .less => .zero | .or => .one | .same => .unit | _ => .no
def shAnd (fa fb : Option Int) (eq : Bool) (most : Int) : Sh :=
  if fa = some 0 ∨ fb = some 0 then .zero else if fa = some most then .other else if fb = some most ∨ eq = true then .one else .no
def shortR (o : Op) (fa fb : Option Int) (eq : Bool) (most : Int) : Sh :=
  if (o = .add ∨ o = .or ∨ o = .xor) ∧ fa = some 0 then .other
  else if (o = .add ∨ o = .or ∨ o = .xor) ∧ fb = some 0 then .one
  else if o = .and then shAnd fa fb eq most
  else if fb = some 0 ∧ o = .sub then .one
  else if fb = some 0 ∧ o = .less then .zero
  else if eq = true then shTwice o
  else .no
def optV : Option Int → V | some x => .int x | none => .non
theorem dec_opt (fa : Option Int) (z : Int) : decide (optV fa = .int z) = decide (fa = some z) := by
  cases fa with
  | none => simp [optV]
  | some x => simp [optV]
theorem scal_opt (fa : Option Int) (z : Int) : scal (optV fa) (.int z) = true := by cases fa <;> rfl
def either (o : Op) : Bool := match o with | .sub => false | .less => false | _ => true
def Part.word : Part → Option Int | .num v => some v | _ => none
def wordOf (ps : List Part) (a : Nat) : Option Int := (ps[a]?).bind Part.word
theorem wordOf_at {ps : List Part} {i : Nat} {p : Part} (h : ps[i]? = some p) : wordOf ps i = p.word := by unfold wordOf; rw [h]; rfl
def fin (ps : List Part) (o : Op) (a b : Nat) : Sh → Nat × List Part
  | .one => (a, ps) | .other => (b, ps) | .zero => mk ps (.num 0) | .unit => mk ps (.num 1) | .no => mk ps (.op o a b)
def mApply (w : Nat) (ps : List Part) (o : Op) (a b : Nat) : Nat × List Part :=
  match wordOf ps a, wordOf ps b with
  | some x, some y => mk ps (.num (opI w o x y))
  | fa, fb => if either o = true ∧ b < a then fin ps o b a (shortR o fb fa (decide (b = a)) (2 ^ w - 1)) else fin ps o a b (shortR o fa fb (decide (a = b)) (2 ^ w - 1))
/-! ### in the heap -/
def TupsAt (H : Hp) (ts : List Addr) (ps : List Part) : Prop := ts.length = ps.length ∧ ∀ (i : Nat) (p : Part), ps[i]? = some p → ∃ t : Addr, ts[i]? = some t ∧ H t = some (.tup p.vals)
/-- a list of parts at l -/
def LAt (H : Hp) (l : Addr) (ps : List Part) : Prop := ∃ ts, H l = some (.lst (ts.map V.ref)) ∧ TupsAt H ts ps
theorem LAt.item {H : Hp} {l : Addr} {ps : List Part} (h : LAt H l ps) : ∃ xs : List V, H l = some (.lst xs) ∧ xs.length = ps.length ∧ ∀ (i : Nat) (p : Part), ps[i]? = some p → ∃ t : Addr, xs[i]? = some (V.ref t) ∧ H t = some (.tup p.vals) := by
  obtain ⟨ts, h1, h2, h3⟩ := h
  refine ⟨_, h1, by rw [List.length_map, h2], fun i p e => ?_⟩
  obtain ⟨t, e1, e2⟩ := h3 i p e
  exact ⟨t, by rw [List.getElem?_map, e1]; rfl, e2⟩
/-- what stands stays, but for what S says -/
def Keep (S : Addr → Prop) (H H' : Hp) : Prop := ∀ b o, H b = some o → ¬ S b → H' b = some o
theorem LAt.keep {S : Addr → Prop} {H H' : Hp} {l : Addr} {ps : List Part} (h : LAt H l ps) (k : Keep S H H') (hl : ¬ S l) (ht : ∀ t xs, H t = some (.tup xs) → ¬ S t) : LAt H' l ps := by
  obtain ⟨ts, h1, h2, h3⟩ := h
  refine ⟨ts, k _ _ h1 hl, h2, fun i p e => ?_⟩
  obtain ⟨t, e1, e2⟩ := h3 i p e
  exact ⟨t, e1, k _ _ e2 (ht _ _ e2)⟩
theorem LAt.push {H H' : Hp} {l t : Addr} {ps : List Part} {p : Part} {xs : List V} (h : LAt H l ps) (hx : H l = some (.lst xs)) (k : ∀ b ys, H b = some (.tup ys) → H' b = some (.tup ys)) (e : H' l = some (.lst (xs ++ [.ref t]))) (et : H' t = some (.tup p.vals)) : LAt H' l (ps ++ [p]) := by
  obtain ⟨ts, h1, h2, h3⟩ := h
  rw [h1] at hx
  cases hx
  refine ⟨ts ++ [t], by rw [e, List.map_append]; rfl, by rw [List.length_append, List.length_append, h2]; rfl, fun i q hq => ?_⟩
  by_cases hi : i < ps.length
  · rw [List.getElem?_append_left hi] at hq
    obtain ⟨u, e1, e2⟩ := h3 i q hq
    refine ⟨u, by rw [List.getElem?_append_left (by omega)]; exact e1, k _ _ e2⟩
  · have hl := (List.getElem?_eq_some_iff.mp hq).1
    rw [List.length_append, List.length_singleton] at hl
    have ei : i = ps.length := by omega
    subst ei
    rw [List.getElem?_append_right (Nat.le_refl _), Nat.sub_self] at hq
    cases hq
    exact ⟨t, by rw [← h2, List.getElem?_append_right (Nat.le_refl _), Nat.sub_self]; rfl, et⟩
def poolF (w : Nat) (l d : Addr) : List (Str × V) := [("width", .int w), ("_most", .int (2 ^ w - 1)), ("_parts", .ref l), ("_numbers", .ref d)]
structure PoolAt (C : Addr) (H : Hp) (a l d : Addr) (w : Nat) (ps : List Part) : Prop where
  ob : ∃ dx, H a = some (.ins C dx (poolF w l d))
  lst : LAt H l ps
  dic : H d = some (.dT (numd ps))
theorem ld_ne {H : Hp} {l d : Addr} {xs : List V} {kvs : List (List Key × V)} (h1 : H l = some (.lst xs)) (h2 : H d = some (.dT kvs)) : l ≠ d := ne_of h1 h2 (by intro z; cases z)
theorem PoolAt.keep {S : Addr → Prop} {C : Addr} {H H' : Hp} {a l d : Addr} {w : Nat} {ps : List Part} (h : PoolAt C H a l d w ps) (k : Keep S H H') (ha : ¬ S a) (hl : ¬ S l) (hd : ¬ S d) (ht : ∀ t xs, H t = some (.tup xs) → ¬ S t) : PoolAt C H' a l d w ps :=
  ⟨by obtain ⟨dx, e⟩ := h.ob; exact ⟨dx, k _ _ e ha⟩, h.lst.keep k hl ht, k _ _ h.dic hd⟩
theorem lk {f g : Str} {y : V} {fs : List (Str × V)} : ((f, y) :: fs).lookup g = if g = f then some y else fs.lookup g := by
  by_cases h : g = f
  · subst h; simp [List.lookup]
  · have e : (g == f) = false := by simpa using h
    rw [if_neg h]; simp [List.lookup, e]
theorem look_width (w : Nat) (l d : Addr) : (poolF w l d).lookup ("width" : Str) = some (V.int w) := by unfold poolF; rw [lk, if_pos rfl]
theorem look_most (w : Nat) (l d : Addr) : (poolF w l d).lookup ("_most" : Str) = some (V.int (2 ^ w - 1)) := by unfold poolF; rw [lk, if_neg (by decide +kernel), lk, if_pos rfl]
theorem look_parts (w : Nat) (l d : Addr) : (poolF w l d).lookup ("_parts" : Str) = some (V.ref l) := by unfold poolF; rw [lk, if_neg (by decide +kernel), lk, if_neg (by decide +kernel), lk, if_pos rfl]
theorem look_numbers (w : Nat) (l d : Addr) : (poolF w l d).lookup ("_numbers" : Str) = some (V.ref d) := by unfold poolF; rw [lk, if_neg (by decide +kernel), lk, if_neg (by decide +kernel), lk, if_neg (by decide +kernel), lk, if_pos rfl]
theorem look_no (w : Nat) (l d : Addr) {m : Str} (h1 : ¬ m = "width") (h2 : ¬ m = "_most") (h3 : ¬ m = "_parts") (h4 : ¬ m = "_numbers") : (poolF w l d).lookup m = none := by
  unfold poolF; rw [lk, if_neg h1, lk, if_neg h2, lk, if_neg h3, lk, if_neg h4]; rfl
theorem poolF_made (w : Nat) (l d : Addr) : putF "_numbers" (.ref d) (putF "_parts" (.ref l) (putF "_most" (.int (2 ^ w - 1)) (putF "width" (.int w) []))) = poolF w l d := by
  have e1 : ¬ (("width" : Str) = "_most") := by decide +kernel
  have e2 : ¬ (("width" : Str) = "_parts") := by decide +kernel
  have e3 : ¬ (("_most" : Str) = "_parts") := by decide +kernel
  have e4 : ¬ (("width" : Str) = "_numbers") := by decide +kernel
  have e5 : ¬ (("_most" : Str) = "_numbers") := by decide +kernel
  have e6 : ¬ (("_parts" : Str) = "_numbers") := by decide +kernel
  simp only [putF, if_neg e1, if_neg e2, if_neg e3, if_neg e4, if_neg e5, if_neg e6]
  rfl
end My

/-! R -/
/-! what a part is made of -/
namespace My
open PySem L2
inductive Reach (ps : List Part) (n : Nat) : Nat → Prop
  | self : Reach ps n n
  | left {k : Nat} {o : Op} {a b : Nat} : Reach ps n k → ps[k]? = some (Part.op o a b) → Reach ps n a
  | right {k : Nat} {o : Op} {a b : Nat} : Reach ps n k → ps[k]? = some (Part.op o a b) → Reach ps n b
/-- operands stand ahead -/
def WF (ps : List Part) : Prop := ∀ (k : Nat) (o : Op) (a b : Nat), ps[k]? = some (Part.op o a b) → a < k ∧ b < k
theorem Reach.le {ps : List Part} {n k : Nat} (w : WF ps) (h : Reach ps n k) : k ≤ n := by
  induction h with
  | self => exact Nat.le_refl _
  | left _ e ih => have := w _ _ _ _ e; omega
  | right _ e ih => have := w _ _ _ _ e; omega
structure ReachL (ps : List Part) (n : Nat) (ks : List Nat) : Prop where
  asc : ks.Pairwise (· < ·)
  mem : ∀ k, k ∈ ks ↔ Reach ps n k
theorem asc_ext : ∀ {xs ys : List Nat}, xs.Pairwise (· < ·) → ys.Pairwise (· < ·) → (∀ k, k ∈ xs ↔ k ∈ ys) → xs = ys
  | [], [], _, _, _ => rfl
  | [], y :: ys, _, _, h => absurd ((h y).mpr List.mem_cons_self) (by simp)
  | x :: xs, [], _, _, h => absurd ((h x).mp List.mem_cons_self) (by simp)
  | x :: xs, y :: ys, hx, hy, h => by
    obtain ⟨hx1, hx2⟩ := List.pairwise_cons.mp hx
    obtain ⟨hy1, hy2⟩ := List.pairwise_cons.mp hy
    have e : x = y := by
      rcases List.mem_cons.mp ((h x).mp List.mem_cons_self) with e | e
      · exact e
      · rcases List.mem_cons.mp ((h y).mpr List.mem_cons_self) with e' | e'
        · exact e'.symm
        · have := hy1 _ e; have := hx1 _ e'; omega
    subst e
    rw [asc_ext hx2 hy2 fun k => ⟨fun m => ?_, fun m => ?_⟩]
    · rcases List.mem_cons.mp ((h k).mp (List.mem_cons_of_mem _ m)) with e | e
      · have := hx1 _ m; omega
      · exact e
    · rcases List.mem_cons.mp ((h k).mpr (List.mem_cons_of_mem _ m)) with e | e
      · have := hy1 _ m; omega
      · exact e
theorem ReachL.uniq {ps : List Part} {n : Nat} {ks ls : List Nat} (h : ReachL ps n ks) (h' : ReachL ps n ls) : ks = ls :=
  asc_ext h.asc h'.asc fun k => (h.mem k).trans (h'.mem k).symm
/-- the dict of what is found -/
def dk (F : List Nat) : List (Key × V) := F.map fun (k : Nat) => (Sum.inl ((k : Nat) : Int), V.bl true)
theorem valV_dk (k : Nat) : ∀ F : List Nat, valV (dk F) (Sum.inl (k : Int)) = if k ∈ F then some (.bl true) else none
  | [] => rfl
  | j :: F => by
    have ih := valV_dk k F
    unfold dk at ih ⊢
    rw [List.map_cons]
    by_cases e : j = k
    · subst e
      rw [valV_pos rfl, if_pos List.mem_cons_self]
    · rw [valV_neg (fun z => e (by have := Sum.inl.inj z; exact Int.ofNat.inj this)), ih]
      by_cases m : k ∈ F
      · rw [if_pos m, if_pos (List.mem_cons_of_mem _ m)]
      · rw [if_neg m, if_neg (fun z => m ((List.mem_cons.mp z).resolve_left (fun y => e y.symm)))]
theorem dk_len (F : List Nat) : (dk F).length = F.length := by unfold dk; simp
theorem dk_put {F : List Nat} {k : Nat} (h : k ∉ F) : putK (dk F) (Sum.inl (k : Int)) (.bl true) = dk (F ++ [k]) := by
  rw [putK_new _ (by rw [valV_dk, if_neg h])]; unfold dk; simp
theorem dk_keys (F : List Nat) : (dk F).map (·.1) = (F.map fun (k : Nat) => ((k : Nat) : Int)).map Sum.inl := by unfold dk; simp
/-- found and waiting -/
structure FW (ps : List Part) (n : Nat) (F W : List Nat) : Prop where
  nd : F.Nodup
  sub : ∀ k ∈ W, k ∈ F
  rch : ∀ k ∈ F, Reach ps n k
  n_in : n ∈ F
  clo : ∀ k ∈ F, k ∉ W → ∀ (o : Op) (a b : Nat), ps[k]? = some (Part.op o a b) → a ∈ F ∧ b ∈ F
def addN (s : List Nat × List Nat) (k : Nat) : List Nat × List Nat := if k ∈ s.1 then s else (s.1 ++ [k], s.2 ++ [k])
theorem addN_in {s : List Nat × List Nat} {k : Nat} (h : k ∈ s.1) : addN s k = s := if_pos h
theorem addN_new {s : List Nat × List Nat} {k : Nat} (h : k ∉ s.1) : addN s k = (s.1 ++ [k], s.2 ++ [k]) := if_neg h
theorem nodup_lt : ∀ {n : Nat} {F : List Nat}, F.Nodup → (∀ k ∈ F, k < n) → F.length ≤ n
  | 0, F, _, hk => by
    cases F with
    | nil => exact Nat.le_refl _
    | cons x r => exact absurd (hk x List.mem_cons_self) (Nat.not_lt_zero _)
  | n + 1, F, h, hk => by
    have ih := nodup_lt (n := n) (F := F.erase n) (h.erase n) fun k m => by
      have := (h.mem_erase_iff).mp m
      have := hk k this.2
      omega
    rw [List.length_erase] at ih
    split at ih <;> omega
end My
namespace My
open PySem L2
def adds (s : List Nat × List Nat) (l : List Nat) : List Nat × List Nat := l.foldl addN s
theorem adds_two {s : List Nat × List Nat} (x y : Nat) (i : Nat) (v : Nat) (h : [x, y][i]? = some v) : adds s ([x, y].take (i + 1)) = addN (adds s ([x, y].take i)) v := by
  match i, h with
  | 0, h => cases h; rfl
  | 1, h => cases h; rfl
  | i + 2, h => simp at h
theorem addN_mono {s : List Nat × List Nat} {k j : Nat} (h : j ∈ s.1) : j ∈ (addN s k).1 := by
  unfold addN; split
  · exact h
  · exact List.mem_append_left _ h
theorem addN_self {s : List Nat × List Nat} {k : Nat} : k ∈ (addN s k).1 := by
  unfold addN; split
  · assumption
  · simp
/-- one turn -/
structure Mid (ps : List Part) (n : Nat) (s : List Nat × List Nat) (j : Nat) : Prop where
  nd : s.1.Nodup
  sub : ∀ k ∈ s.2, k ∈ s.1
  rch : ∀ k ∈ s.1, Reach ps n k
  n_in : n ∈ s.1
  clo : ∀ k ∈ s.1, k ∉ s.2 → k ≠ j → ∀ (o : Op) (a b : Nat), ps[k]? = some (Part.op o a b) → a ∈ s.1 ∧ b ∈ s.1
theorem Mid.add {ps : List Part} {n : Nat} {s : List Nat × List Nat} {j k : Nat} (m : Mid ps n s j) (r : Reach ps n k) : Mid ps n (addN s k) j := by
  by_cases h : k ∈ s.1
  · rw [addN_in h]; exact m
  · rw [addN_new h]
    refine ⟨?_, fun z hz => ?_, fun z hz => ?_, List.mem_append_left _ m.n_in, fun z hz hn hj o a b e => ?_⟩
    · exact List.nodup_append.mpr ⟨m.nd, by simp, by intro a ha b hb; simp at hb; subst hb; exact fun e => h (e ▸ ha)⟩
    · rcases List.mem_append.mp hz with hz | hz
      · exact List.mem_append_left _ (m.sub z hz)
      · exact List.mem_append_right _ hz
    · rcases List.mem_append.mp hz with hz | hz
      · exact m.rch z hz
      · simp at hz; subst hz; exact r
    · rcases List.mem_append.mp hz with hz | hz
      · have := m.clo z hz (fun q => hn (List.mem_append_left _ q)) hj o a b e
        exact ⟨List.mem_append_left _ this.1, List.mem_append_left _ this.2⟩
      · exact absurd (List.mem_append_right _ hz) hn
theorem FW.mid {ps : List Part} {n : Nat} {F W : List Nat} {j : Nat} (f : FW ps n F (W ++ [j])) : Mid ps n (F, W) j :=
  ⟨f.nd, fun k m => f.sub k (List.mem_append_left _ m), f.rch, f.n_in, fun k hk hn hj o a b e => f.clo k hk (by simp [hn, hj]) o a b e⟩
theorem Mid.fw {ps : List Part} {n : Nat} {s : List Nat × List Nat} {j : Nat} (m : Mid ps n s j) (h : ∀ (o : Op) (a b : Nat), ps[j]? = some (Part.op o a b) → a ∈ s.1 ∧ b ∈ s.1) : FW ps n s.1 s.2 :=
  ⟨m.nd, m.sub, m.rch, m.n_in, fun k hk hn o a b e => by
    by_cases hj : k = j
    · subst hj; exact h o a b e
    · exact m.clo k hk hn hj o a b e⟩
/-- the measure of one step -/
theorem addN_meas (N : Nat) (s : List Nat × List Nat) (k : Nat) (h : (addN s k).1.length ≤ N) : 2 * (N - (addN s k).1.length) + (addN s k).2.length ≤ 2 * (N - s.1.length) + s.2.length := by
  unfold addN at h ⊢
  split
  · exact Nat.le_refl _
  · rename_i hk
    rw [if_neg hk] at h
    simp at h ⊢
    omega
end My

/-! R2 -/
namespace My
open PySem L2
/-! ### made or found -/
theorem mk_at (ps : List Part) (p : Part) : (mk ps p).2[(mk ps p).1]? = some p := by
  unfold mk; split
  · rename_i h
    have := List.idxOf_lt_length_iff.mpr h
    rw [List.getElem?_eq_getElem this, List.getElem_idxOf]
  · rw [List.getElem?_append_right (Nat.le_refl _), Nat.sub_self]; rfl
theorem mk_lt (ps : List Part) (p : Part) : (mk ps p).1 < (mk ps p).2.length := (List.getElem?_eq_some_iff.mp (mk_at ps p)).1
theorem mk_pre (ps : List Part) (p : Part) : ps <+: (mk ps p).2 := by unfold mk; split; exact List.prefix_refl _; exact List.prefix_append _ _
theorem mk_len (ps : List Part) (p : Part) : (mk ps p).2.length ≤ ps.length + 1 := by unfold mk; split <;> simp
theorem fin_lt {ps : List Part} {o : Op} {a b : Nat} (ha : a < ps.length) (hb : b < ps.length) (s : Sh) : (fin ps o a b s).1 < (fin ps o a b s).2.length := by
  cases s <;> first | exact ha | exact hb | exact mk_lt _ _
theorem fin_pre (ps : List Part) (o : Op) (a b : Nat) (s : Sh) : ps <+: (fin ps o a b s).2 := by cases s <;> first | exact List.prefix_refl _ | exact mk_pre _ _
theorem fin_len (ps : List Part) (o : Op) (a b : Nat) (s : Sh) : (fin ps o a b s).2.length ≤ ps.length + 1 := by cases s <;> first | exact Nat.le_succ _ | exact mk_len _ _
theorem mApply_lt {w : Nat} {ps : List Part} {o : Op} {a b : Nat} (ha : a < ps.length) (hb : b < ps.length) : (mApply w ps o a b).1 < (mApply w ps o a b).2.length := by
  unfold mApply; split
  · exact mk_lt _ _
  · split
    · exact fin_lt hb ha _
    · exact fin_lt ha hb _
theorem mApply_pre (w : Nat) (ps : List Part) (o : Op) (a b : Nat) : ps <+: (mApply w ps o a b).2 := by
  unfold mApply; split
  · exact mk_pre _ _
  · split <;> exact fin_pre _ _ _ _ _
theorem mApply_len (w : Nat) (ps : List Part) (o : Op) (a b : Nat) : (mApply w ps o a b).2.length ≤ ps.length + 1 := by
  unfold mApply; split
  · exact mk_len _ _
  · split <;> exact fin_len _ _ _ _ _
/-! ### well made pools -/
def GetOk (ps : List Part) : Prop := ∀ (k : Nat) (i : Int), ps[k]? = some (Part.get i) → 0 ≤ i ∧ i ≤ 63
def NumOk (w : Nat) (ps : List Part) : Prop := ∀ (k : Nat) (v : Int), ps[k]? = some (Part.num v) → 0 ≤ v ∧ v < 2 ^ w
def Ahead (n : Nat) : Part → Prop | .op _ a b => a < n ∧ b < n | _ => True
def PartOk (w : Nat) : Part → Prop | .num v => 0 ≤ v ∧ v < 2 ^ w | .get i => 0 ≤ i ∧ i ≤ 63 | .op _ _ _ => True
structure Ok (w : Nat) (ps : List Part) : Prop where
  wf : WF ps
  get : GetOk ps
  num : NumOk w ps
theorem ok_nil (w : Nat) : Ok w [] := ⟨fun _ _ _ _ e => by simp at e, fun _ _ e => by simp at e, fun _ _ e => by simp at e⟩
theorem ok_snoc {w : Nat} {ps : List Part} {p : Part} (h : Ok w ps) (ha : Ahead ps.length p) (hp : PartOk w p) : Ok w (ps ++ [p]) := by
  have at_ : ∀ {k : Nat} {q : Part}, (ps ++ [p])[k]? = some q → ps[k]? = some q ∨ (k = ps.length ∧ q = p) := by
    intro k q e
    by_cases hk : k < ps.length
    · rw [List.getElem?_append_left hk] at e; exact .inl e
    · have hl := (List.getElem?_eq_some_iff.mp e).1
      rw [List.length_append, List.length_singleton] at hl
      have ek : k = ps.length := by omega
      subst ek
      rw [List.getElem?_append_right (Nat.le_refl _), Nat.sub_self] at e
      cases e
      exact .inr ⟨rfl, rfl⟩
  refine ⟨fun k o a b e => ?_, fun k i e => ?_, fun k v e => ?_⟩
  · rcases at_ e with e | ⟨rfl, rfl⟩
    · exact h.wf _ _ _ _ e
    · exact ha
  · rcases at_ e with e | ⟨rfl, rfl⟩
    · exact h.get _ _ e
    · exact hp
  · rcases at_ e with e | ⟨rfl, rfl⟩
    · exact h.num _ _ e
    · exact hp
theorem ok_mk {w : Nat} {ps : List Part} {p : Part} (h : Ok w ps) (ha : Ahead ps.length p) (hp : PartOk w p) : Ok w (mk ps p).2 := by
  unfold mk; split
  · exact h
  · exact ok_snoc h ha hp
theorem pow_pos' (w : Nat) : (0 : Int) < 2 ^ w := Int.pow_pos (by decide)
theorem one_lt {w : Nat} (h : 1 ≤ w) : (1 : Int) < 2 ^ w := by
  obtain ⟨k, rfl⟩ : ∃ k, w = k + 1 := ⟨w - 1, by omega⟩
  have := pow_pos' k
  rw [Int.pow_succ]; omega
theorem and_range {w : Nat} {x y : Int} (hx : 0 ≤ x) (hy : 0 ≤ y) (hxw : x < 2 ^ w) (hyw : y < 2 ^ w) : 0 ≤ Builtin.bitAnd x y ∧ Builtin.bitAnd x y < 2 ^ w := by
  obtain ⟨a, rfl⟩ := Int.eq_ofNat_of_zero_le hx
  obtain ⟨b, rfl⟩ := Int.eq_ofNat_of_zero_le hy
  have e : Builtin.bitAnd (a : Int) (b : Int) = ((a &&& b : Nat) : Int) := by simp [Builtin.bitAnd]
  rw [e]
  refine ⟨by omega, ?_⟩
  have h2 : a < 2 ^ w := by exact_mod_cast hxw
  have := Nat.and_lt_two_pow (n := w) b (by exact_mod_cast hyw) |> fun _ => Nat.lt_of_le_of_lt (Nat.and_le_left (n := a) (m := b)) h2
  exact_mod_cast this
theorem or_range {w : Nat} {x y : Int} (hx : 0 ≤ x) (hy : 0 ≤ y) (hxw : x < 2 ^ w) (hyw : y < 2 ^ w) : 0 ≤ Builtin.bitOr x y ∧ Builtin.bitOr x y < 2 ^ w := by
  obtain ⟨a, rfl⟩ := Int.eq_ofNat_of_zero_le hx
  obtain ⟨b, rfl⟩ := Int.eq_ofNat_of_zero_le hy
  have e : Builtin.bitOr (a : Int) (b : Int) = ((a ||| b : Nat) : Int) := by rw [Bits.bitOr_pp (by omega) (by omega), Int.toNat_natCast, Int.toNat_natCast]
  rw [e]
  refine ⟨by omega, ?_⟩
  have := Nat.or_lt_two_pow (x := a) (y := b) (n := w) (by exact_mod_cast hxw) (by exact_mod_cast hyw)
  exact_mod_cast this
theorem xor_range {w : Nat} {x y : Int} (hx : 0 ≤ x) (hy : 0 ≤ y) (hxw : x < 2 ^ w) (hyw : y < 2 ^ w) : 0 ≤ Builtin.bitXor x y ∧ Builtin.bitXor x y < 2 ^ w := by
  obtain ⟨a, rfl⟩ := Int.eq_ofNat_of_zero_le hx
  obtain ⟨b, rfl⟩ := Int.eq_ofNat_of_zero_le hy
  have e : Builtin.bitXor (a : Int) (b : Int) = ((a ^^^ b : Nat) : Int) := by rw [Bits.bitXor_pp (by omega) (by omega), Int.toNat_natCast, Int.toNat_natCast]
  rw [e]
  refine ⟨by omega, ?_⟩
  have := Nat.xor_lt_two_pow (x := a) (y := b) (n := w) (by exact_mod_cast hxw) (by exact_mod_cast hyw)
  exact_mod_cast this
theorem opI_range {w : Nat} (h1 : 1 ≤ w) {o : Op} {x y : Int} (hx : 0 ≤ x ∧ x < 2 ^ w) (hy : 0 ≤ y ∧ y < 2 ^ w) : 0 ≤ opI w o x y ∧ opI w o x y < 2 ^ w := by
  have p := pow_pos' w
  have q := one_lt h1
  cases o <;> simp only [opI]
  · exact ⟨Int.emod_nonneg _ (by omega), Int.emod_lt_of_pos _ p⟩
  · exact ⟨Int.emod_nonneg _ (by omega), Int.emod_lt_of_pos _ p⟩
  · exact and_range hx.1 hy.1 hx.2 hy.2
  · exact or_range hx.1 hy.1 hx.2 hy.2
  · exact xor_range hx.1 hy.1 hx.2 hy.2
  · split <;> omega
  · split <;> omega
theorem word_ok {w : Nat} {ps : List Part} (h : Ok w ps) {a : Nat} {x : Int} (e : wordOf ps a = some x) : 0 ≤ x ∧ x < 2 ^ w := by
  unfold wordOf at e
  cases q : ps[a]? with
  | none => rw [q] at e; cases e
  | some p =>
    rw [q] at e
    cases p with
    | num v => cases e; exact h.num _ _ q
    | get i => cases e
    | op o a b => cases e
theorem ok_fin {w : Nat} (h1 : 1 ≤ w) {ps : List Part} (h : Ok w ps) {o : Op} {a b : Nat} (ha : a < ps.length) (hb : b < ps.length) (s : Sh) : Ok w (fin ps o a b s).2 := by
  cases s
  · exact h
  · exact h
  · exact ok_mk h trivial ⟨Int.le_refl _, pow_pos' w⟩
  · exact ok_mk h trivial ⟨by decide, one_lt h1⟩
  · exact ok_mk h ⟨ha, hb⟩ trivial
theorem ok_mApply {w : Nat} (h1 : 1 ≤ w) {ps : List Part} (h : Ok w ps) {o : Op} {a b : Nat} (ha : a < ps.length) (hb : b < ps.length) : Ok w (mApply w ps o a b).2 := by
  unfold mApply; split
  · rename_i x y ea eb
    exact ok_mk h trivial (opI_range h1 (word_ok h ea) (word_ok h eb))
  · split
    · exact ok_fin h1 h hb ha _
    · exact ok_fin h1 h ha hb _
end My

/-! R3 -/
namespace My
open PySem L2
/-! ### words of parts -/
def evV (w : Nat) (env : Int → Int) (acc : List Int) : Part → Int | .num v => v | .get i => env i | .op o a b => opI w o (acc.getD a 0) (acc.getD b 0)
def evStep (w : Nat) (env : Int → Int) (acc : List Int) (p : Part) : List Int := acc ++ [evV w env acc p]
def evs (w : Nat) (env : Int → Int) (ps : List Part) : List Int := ps.foldl (evStep w env) []
def evAt (w : Nat) (env : Int → Int) (ps : List Part) (k : Nat) : Int := (evs w env ps).getD k 0
theorem evs_snoc (w : Nat) (env : Int → Int) (ps : List Part) (p : Part) : evs w env (ps ++ [p]) = evs w env ps ++ [evV w env (evs w env ps) p] := by
  unfold evs; rw [List.foldl_append]; rfl
theorem snoc_ind {α : Type} {C : List α → Prop} (h0 : C []) (hs : ∀ l x, C l → C (l ++ [x])) : ∀ l, C l := by
  have : ∀ n (l : List α), l.length = n → C l := by
    intro n
    induction n with
    | zero => intro l h; rw [List.length_eq_zero_iff] at h; subst h; exact h0
    | succ n ih =>
      intro l h
      rcases List.eq_nil_or_concat l with rfl | ⟨l', x, rfl⟩
      · cases h
      · rw [List.concat_eq_append] at h ⊢
        rw [List.length_append, List.length_singleton] at h
        exact hs l' x (ih l' (by omega))
  intro l; exact this _ l rfl
theorem evs_len (w : Nat) (env : Int → Int) (ps : List Part) : (evs w env ps).length = ps.length := by
  refine snoc_ind (C := fun ps => (evs w env ps).length = ps.length) rfl (fun l x h => ?_) ps
  rw [evs_snoc, List.length_append, List.length_append, h]; rfl
theorem evs_app (w : Nat) (env : Int → Int) (ps : List Part) : ∀ qs : List Part, ∃ r, evs w env (ps ++ qs) = evs w env ps ++ r := by
  refine snoc_ind ⟨[], by simp⟩ (fun l x h => ?_)
  obtain ⟨r, h⟩ := h
  exact ⟨r ++ [evV w env (evs w env (ps ++ l)) x], by rw [← List.append_assoc, evs_snoc, h, List.append_assoc]⟩
theorem evAt_pre {w : Nat} {env : Int → Int} {ps qs : List Part} (h : ps <+: qs) {k : Nat} (hk : k < ps.length) : evAt w env qs k = evAt w env ps k := by
  obtain ⟨t, rfl⟩ := h
  obtain ⟨r, e⟩ := evs_app w env ps t
  unfold evAt
  rw [e, List.getD_eq_getElem?_getD, List.getD_eq_getElem?_getD, List.getElem?_append_left (by rw [evs_len]; exact hk)]
theorem evAt_eq {w : Nat} {env : Int → Int} {ps : List Part} (wf : WF ps) {k : Nat} {p : Part} (hp : ps[k]? = some p) :
    evAt w env ps k = match p with | .num v => v | .get i => env i | .op o a b => opI w o (evAt w env ps a) (evAt w env ps b) := by
  have hk := (List.getElem?_eq_some_iff.mp hp).1
  have e1 : ps = ps.take (k + 1) ++ ps.drop (k + 1) := (List.take_append_drop _ _).symm
  have et : ps.take (k + 1) = ps.take k ++ [p] := by rw [List.take_add_one, hp]; rfl
  have pre : ps.take k ++ [p] <+: ps := ⟨ps.drop (k + 1), by rw [← et]; exact List.take_append_drop _ _⟩
  have pre0 : ps.take k <+: ps := List.take_prefix _ _
  have hl : (ps.take k).length = k := by rw [List.length_take]; omega
  rw [evAt_pre pre (by rw [List.length_append, hl]; simp)]
  unfold evAt
  rw [evs_snoc, List.getD_eq_getElem?_getD, List.getElem?_append_right (by rw [evs_len, hl]; exact Nat.le_refl _), evs_len, hl, Nat.sub_self]
  cases p with
  | num v => rfl
  | get i => rfl
  | op o a b =>
    have hab := wf _ _ _ _ hp
    show opI w o (evAt w env (ps.take k) a) (evAt w env (ps.take k) b) = opI w o (evAt w env ps a) (evAt w env ps b)
    rw [evAt_pre pre0 (by omega), evAt_pre pre0 (by omega)]
/-! ### a term made again in another pool -/
def look (m : List (Nat × Nat)) (k : Nat) : Nat := ((m.find? fun x => decide (x.1 = k)).map (·.2)).getD 0
def dm (m : List (Nat × Nat)) : List (Key × V) := m.map fun (x : Nat × Nat) => (Sum.inl ((x.1 : Nat) : Int), V.int ((x.2 : Nat) : Int))
theorem dm_len (m : List (Nat × Nat)) : (dm m).length = m.length := by unfold dm; simp
theorem valV_dm (k : Nat) : ∀ m : List (Nat × Nat), valV (dm m) (Sum.inl (k : Int)) = if k ∈ m.map (·.1) then some (.int ((look m k : Nat) : Int)) else none
  | [] => rfl
  | x :: m => by
    have ih := valV_dm k m
    unfold dm at ih ⊢
    rw [List.map_cons, List.map_cons]
    by_cases e : x.1 = k
    · rw [valV_pos (by show Sum.inl ((x.1 : Nat) : Int) = Sum.inl (k : Int); rw [e]), if_pos (by rw [e]; exact List.mem_cons_self)]
      unfold look; rw [List.find?_cons, decide_eq_true e]; rfl
    · rw [valV_neg (fun z => e (by have := Sum.inl.inj z; exact Int.ofNat.inj this)), ih]
      have el : look (x :: m) k = look m k := by unfold look; rw [List.find?_cons, decide_eq_false e]
      rw [el]
      by_cases h : k ∈ m.map (·.1)
      · rw [if_pos h, if_pos (List.mem_cons_of_mem _ h)]
      · rw [if_neg h, if_neg (fun z => h ((List.mem_cons.mp z).resolve_left (fun y => e y.symm)))]
theorem dm_put {m : List (Nat × Nat)} {k v : Nat} (h : k ∉ m.map (·.1)) : putK (dm m) (Sum.inl (k : Int)) (.int (v : Int)) = dm (m ++ [(k, v)]) := by
  rw [putK_new _ (by rw [valV_dm, if_neg h])]; unfold dm; simp
theorem look_mem {m : List (Nat × Nat)} {k : Nat} (h : k ∈ m.map (·.1)) : (k, look m k) ∈ m := by
  induction m with
  | nil => simp at h
  | cons x m ih =>
    by_cases e : x.1 = k
    · have : look (x :: m) k = x.2 := by unfold look; rw [List.find?_cons, decide_eq_true e]; rfl
      rw [this, ← e]; exact List.mem_cons_self
    · have el : look (x :: m) k = look m k := by unfold look; rw [List.find?_cons, decide_eq_false e]
      rw [el]
      exact List.mem_cons_of_mem _ (ih ((List.mem_cons.mp h).resolve_left (fun y => e y.symm)))
theorem look_snoc_old {m : List (Nat × Nat)} {k : Nat} (x : Nat × Nat) (h : k ∈ m.map (·.1)) : look (m ++ [x]) k = look m k := by
  induction m with
  | nil => simp at h
  | cons y m ih =>
    by_cases e : y.1 = k
    · unfold look; rw [List.cons_append, List.find?_cons, List.find?_cons, decide_eq_true e]
    · have := ih ((List.mem_cons.mp h).resolve_left (fun z => e z.symm))
      unfold look at this ⊢; rw [List.cons_append, List.find?_cons, List.find?_cons, decide_eq_false e]; exact this
theorem look_snoc_new {m : List (Nat × Nat)} {k v : Nat} (h : k ∉ m.map (·.1)) : look (m ++ [(k, v)]) k = v := by
  induction m with
  | nil => unfold look; simp
  | cons y m ih =>
    have e : ¬ y.1 = k := fun e => h (by rw [← e]; exact List.mem_cons_self)
    have := ih (fun z => h (List.mem_cons_of_mem _ z))
    unfold look at this ⊢; rw [List.cons_append, List.find?_cons, decide_eq_false e]; exact this
def cstepR (w2 : Nat) (ps : List Part) (st : List Part × List (Nat × Nat)) (k : Nat) : Nat × List Part := match ps[k]? with
  | some (.op o a b) => mApply w2 st.1 o (look st.2 a) (look st.2 b)
  | some (.get i) => mk st.1 (.get i)
  | some (.num v) => mk st.1 (.num (v % 2 ^ w2))
  | none => (0, st.1)
def cstep (w2 : Nat) (ps : List Part) (st : List Part × List (Nat × Nat)) (k : Nat) : List Part × List (Nat × Nat) := ((cstepR w2 ps st k).2, st.2 ++ [(k, (cstepR w2 ps st k).1)])
def mCarry (w2 : Nat) (ps : List Part) (ks : List Nat) (qs : List Part) : List Part × List (Nat × Nat) := ks.foldl (cstep w2 ps) (qs, [])
/-- what holds behind the numbers done -/
structure CInv (w2 : Nat) (ps qs : List Part) (done : List Nat) (st : List Part × List (Nat × Nat)) : Prop where
  keys : st.2.map (fun (x : Nat × Nat) => x.1) = done
  lt : ∀ x : Nat × Nat, x ∈ st.2 → x.2 < st.1.length
  len : st.1.length ≤ qs.length + done.length
  ok : Ok w2 st.1
  pre : qs <+: st.1
theorem CInv.look {w2 : Nat} {ps qs : List Part} {done : List Nat} {st : List Part × List (Nat × Nat)} (c : CInv w2 ps qs done st) {a : Nat} (h : a ∈ done) : My.look st.2 a < st.1.length :=
  c.lt _ (look_mem (by rw [c.keys]; exact h))
theorem CInv.start {w2 : Nat} {ps qs : List Part} (h : Ok w2 qs) : CInv w2 ps qs [] (qs, []) := ⟨rfl, fun _ m => by simp at m, Nat.le_refl _, h, List.prefix_refl _⟩
theorem CInv.step {w2 : Nat} (h1 : 1 ≤ w2) {ps qs : List Part} {done : List Nat} {st : List Part × List (Nat × Nat)} {k : Nat} {p : Part} (c : CInv w2 ps qs done st) (hg : GetOk ps) (hp : ps[k]? = some p)
    (hab : ∀ o a b, p = Part.op o a b → a ∈ done ∧ b ∈ done) : CInv w2 ps qs (done ++ [k]) (cstep w2 ps st k) := by
  have key : (cstepR w2 ps st k).1 < (cstepR w2 ps st k).2.length ∧ (cstepR w2 ps st k).2.length ≤ st.1.length + 1 ∧ Ok w2 (cstepR w2 ps st k).2 ∧ st.1 <+: (cstepR w2 ps st k).2 := by
    unfold cstepR
    rw [hp]
    cases p with
    | num v => exact ⟨mk_lt _ _, mk_len _ _, ok_mk c.ok trivial ⟨Int.emod_nonneg _ (by have := pow_pos' w2; omega), Int.emod_lt_of_pos _ (pow_pos' w2)⟩, mk_pre _ _⟩
    | get i => exact ⟨mk_lt _ _, mk_len _ _, ok_mk c.ok trivial (hg _ _ hp), mk_pre _ _⟩
    | op o a b =>
      obtain ⟨ha, hb⟩ := hab o a b rfl
      exact ⟨mApply_lt (c.look ha) (c.look hb), mApply_len _ _ _ _ _, ok_mApply h1 c.ok (c.look ha) (c.look hb), mApply_pre _ _ _ _ _⟩
  refine ⟨?_, fun x hx => ?_, ?_, key.2.2.1, c.pre.trans key.2.2.2⟩
  · show (st.2 ++ [(k, (cstepR w2 ps st k).1)]).map (fun (x : Nat × Nat) => x.1) = _
    rw [List.map_append, c.keys]; rfl
  · rcases List.mem_append.mp hx with hx | hx
    · have := c.lt x hx
      have := key.2.2.2.length_le
      show x.2 < (cstepR w2 ps st k).2.length
      omega
    · simp at hx; subst hx; exact key.1
  · show (cstepR w2 ps st k).2.length ≤ _
    have := c.len
    rw [List.length_append, List.length_singleton]; omega
theorem asc_take {ks : List Nat} (h : ks.Pairwise (· < ·)) {i k z : Nat} (hk : ks[i]? = some k) (hz : z ∈ ks) (hzk : z < k) : z ∈ ks.take i := by
  obtain ⟨j, hj, rfl⟩ := List.getElem_of_mem hz
  have hi := (List.getElem?_eq_some_iff.mp hk).1
  have ek := (List.getElem?_eq_some_iff.mp hk).2
  by_cases hji : j < i
  · exact List.mem_take_iff_getElem.mpr ⟨j, by omega, rfl⟩
  · exfalso
    by_cases e : j = i
    · subst e; omega
    · have := List.pairwise_iff_getElem.mp h i j hi hj (by omega)
      omega
end My

/-! R4 -/
namespace My
open PySem L2
def dv (f : Nat → Int) (l : List Nat) : List (Key × V) := l.map fun (k : Nat) => (Sum.inl ((k : Nat) : Int), V.int (f k))
theorem dv_len (f : Nat → Int) (l : List Nat) : (dv f l).length = l.length := by unfold dv; simp
theorem valV_dv (f : Nat → Int) (k : Nat) : ∀ l : List Nat, valV (dv f l) (Sum.inl (k : Int)) = if k ∈ l then some (.int (f k)) else none
  | [] => rfl
  | j :: l => by
    have ih := valV_dv f k l
    unfold dv at ih ⊢
    rw [List.map_cons]
    by_cases e : j = k
    · subst e
      rw [valV_pos rfl, if_pos List.mem_cons_self]
    · rw [valV_neg (fun z => e (by have := Sum.inl.inj z; exact Int.ofNat.inj this)), ih]
      by_cases m : k ∈ l
      · rw [if_pos m, if_pos (List.mem_cons_of_mem _ m)]
      · rw [if_neg m, if_neg (fun z => m ((List.mem_cons.mp z).resolve_left (fun y => e y.symm)))]
theorem dv_put {f : Nat → Int} {l : List Nat} {k : Nat} (h : k ∉ l) : putK (dv f l) (Sum.inl (k : Int)) (.int (f k)) = dv f (l ++ [k]) := by
  rw [putK_new _ (by rw [valV_dv, if_neg h])]; unfold dv; simp
theorem not_in_take {ks : List Nat} (h : ks.Pairwise (· < ·)) {j k : Nat} (hk : ks[j]? = some k) : k ∉ ks.take j := by
  intro hm
  obtain ⟨j', hj', e⟩ := List.mem_take_iff_getElem.mp hm
  have hjl := (List.getElem?_eq_some_iff.mp hk).1
  have ejk := (List.getElem?_eq_some_iff.mp hk).2
  have := List.pairwise_iff_getElem.mp h j' j (by omega) hjl (by omega)
  omega
theorem take_snoc {α : Type} {l : List α} {j : Nat} {x : α} (h : l[j]? = some x) : l.take (j + 1) = l.take j ++ [x] := by rw [List.take_add_one, h]; rfl
def envOf (ws : List Int) : Int → Int := fun g => ws.getD g.toNat 0
end My

/-! R5 -/
namespace My
open PySem L2
/-! ### parts compared -/
def Part.pd : Part → PyData
  | .num v => .tuple [.str "num", .int v] | .get i => .tuple [.str "get", .int i] | .op o a b => .tuple [.str o.s, .int (a : Nat), .int (b : Nat)]
theorem dp_part {K : PySem.W.Frag} {H : Hp} {t : Addr} {p : Part} (h : H t = some (.tup p.vals)) : Dp K H (.ref t) p.pd := by
  cases p with
  | num v => exact .tup (SqT.of h) (.cons (.str _) (.cons (.int _) .nil))
  | get v => exact .tup (SqT.of h) (.cons (.str _) (.cons (.int _) .nil))
  | op o a b => exact .tup (SqT.of h) (.cons (.str _) (.cons (.int _) (.cons (.int _) .nil)))
theorem shaped_part (p : Part) : SeqAt.shaped p.pd = true := by
  have e1 : PyData.strOk (Str.ofString "num") = true := by decide +kernel
  have e2 : PyData.strOk (Str.ofString "get") = true := by decide +kernel
  have e3 : ∀ o : Op, PyData.strOk o.s = true := by intro o; cases o <;> decide +kernel
  cases p <;> simp [SeqAt.shaped, Part.pd, PyData.canLay0, PyData.canLayAll0, PyData.depth, PyData.depthAll, e1, e2, e3]
theorem beq_ofs (o o' : Op) : (o.s == o'.s) = decide (o = o') := by cases o <;> cases o' <;> decide +kernel
theorem eqv_pd (p q : Part) : PyData.eqv p.pd q.pd = decide (p = q) := by
  have n1 : (("num" : Str) == "get") = false := by decide +kernel
  have n2 : (("get" : Str) == "num") = false := by decide +kernel
  have n3 : (("get" : Str) == "get") = true := by decide +kernel
  have n4 : (("num" : Str) == "num") = true := by decide +kernel
  have bi : ∀ a b : Int, (a == b) = decide (a = b) := fun a b => by by_cases e : a = b <;> simp [e]
  have dec : ∀ {A B : Prop} [Decidable A] [Decidable B], (A ↔ B) → decide A = decide B := fun h => by simp [h]
  cases p with
  | num v => cases q with
    | num w => simp only [Part.pd, PyData.eqv, PyData.eqvAll, n4, bi, Bool.true_and, Bool.and_true]; exact dec ⟨fun e => by rw [e], fun e => by injection e⟩
    | get w => simp only [Part.pd, PyData.eqv, PyData.eqvAll, n1, Bool.false_and]; simp
    | op o a b => simp only [Part.pd, PyData.eqv, PyData.eqvAll, Bool.and_false]; simp
  | get v => cases q with
    | num w => simp only [Part.pd, PyData.eqv, PyData.eqvAll, n2, Bool.false_and]; simp
    | get w => simp only [Part.pd, PyData.eqv, PyData.eqvAll, n3, bi, Bool.true_and, Bool.and_true]; exact dec ⟨fun e => by rw [e], fun e => by injection e⟩
    | op o a b => simp only [Part.pd, PyData.eqv, PyData.eqvAll, Bool.and_false]; simp
  | op o a b => cases q with
    | num w => simp only [Part.pd, PyData.eqv, PyData.eqvAll, Bool.and_false]; simp
    | get w => simp only [Part.pd, PyData.eqv, PyData.eqvAll, Bool.and_false]; simp
    | op o' a' b' =>
      simp only [Part.pd, PyData.eqv, PyData.eqvAll, beq_ofs, bi, Bool.and_true]
      by_cases e1 : o = o' <;> by_cases e2 : a = a' <;> by_cases e3 : b = b' <;> simp [e1, e2, e3]
      all_goals (first | (intro z; omega) | omega | skip)
theorem eqT {K : PySem.W.Frag} {H : Hp} {t u : Addr} {p q : Part} {Q : VK} (ht : H t = some (.tup p.vals)) (hu : H u = some (.tup q.vals)) (h : Q (.bl (decide (p = q))) H) : rEqD K (.ref t) (.ref u) H Q :=
  ⟨p.pd, q.pd, dp_part ht, dp_part hu, shaped_part p, shaped_part q, by rw [eqv_pd]; exact h⟩
theorem idxOf_le {a : Part} : ∀ {l : List Part} {i : Nat}, l[i]? = some a → l.idxOf a ≤ i
  | [], i, h => by simp at h
  | x :: l, 0, h => by
    have e : x = a := Option.some.inj h
    subst e; simp
  | x :: l, i + 1, h => by
    have ih := idxOf_le (l := l) (i := i) (a := a) h
    rw [List.idxOf_cons]
    cases (x == a) <;> simp <;> omega
theorem word_iff (p : Part) (v : Int) : p.word = some v ↔ p = .num v := by cases p <;> simp [Part.word]
end My

/-! R6 -/
namespace My
open PySem L2
theorem ixN_nat {n a : Nat} (h : a < n) : ixN n (a : Int) = some a := by
  unfold ixN
  rw [if_pos (by omega), if_pos (by omega)]; rfl
/-! ### marks, from the back -/
structure MInv (ps : List Part) (i : Nat) (m : List Bool) (done : Nat) : Prop where
  len : m.length = ps.length
  rch : ∀ k, m[k]? = some true → Reach ps i k
  root : m[i]? = some true
  clo : ∀ k o a b, ps.length ≤ k + done → m[k]? = some true → ps[k]? = some (Part.op o a b) → m[a]? = some true ∧ m[b]? = some true
theorem set_mark {m : List Bool} {a k : Nat} (h : (m.set a true)[k]? = some true) : k = a ∨ m[k]? = some true := by
  rw [List.getElem?_set] at h
  split at h
  · rename_i e; exact .inl e.symm
  · exact .inr h
theorem set_mono {m : List Bool} {a k : Nat} (h : m[k]? = some true) : (m.set a true)[k]? = some true := by
  rw [List.getElem?_set]
  split
  · rename_i e; subst e
    rw [if_pos (List.getElem?_eq_some_iff.mp h).1]
  · exact h
theorem set_self {m : List Bool} {a : Nat} (h : a < m.length) : (m.set a true)[a]? = some true := by
  rw [List.getElem?_set, if_pos rfl, if_pos h]
theorem MInv.start {ps : List Part} {i : Nat} (hi : i < ps.length) : MInv ps i ((List.replicate ps.length false).set i true) 0 := by
  refine ⟨by simp, fun k h => ?_, set_self (by simpa using hi), fun k o a b hk h e => ?_⟩
  · rcases set_mark h with rfl | h
    · exact .self
    · rw [List.getElem?_replicate] at h
      split at h <;> cases h
  · have := (List.getElem?_eq_some_iff.mp e).1; omega
theorem MInv.skip {ps : List Part} {i at_ done : Nat} {m : List Bool} (h : MInv ps i m done) (e : at_ + done + 1 = ps.length) (no : m[at_]? = some true → ∀ o a b, ps[at_]? ≠ some (Part.op o a b)) : MInv ps i m (done + 1) :=
  ⟨h.len, h.rch, h.root, fun k o a b hk hm hp => by
    by_cases ek : k = at_
    · subst ek; exact absurd hp (no hm o a b)
    · exact h.clo k o a b (by omega) hm hp⟩
theorem MInv.mark {ps : List Part} {i at_ done : Nat} {m : List Bool} {o : Op} {a b : Nat} (h : MInv ps i m done) (wf : WF ps) (e : at_ + done + 1 = ps.length) (hm : m[at_]? = some true) (hp : ps[at_]? = some (Part.op o a b)) : MInv ps i ((m.set a true).set b true) (done + 1) := by
  have ab := wf _ _ _ _ hp
  have hr := h.rch _ hm
  refine ⟨by simp [h.len], fun k hk => ?_, set_mono (set_mono h.root), fun k o' a' b' hk hm' hp' => ?_⟩
  · rcases set_mark hk with rfl | hk
    · exact .right hr hp
    · rcases set_mark hk with rfl | hk
      · exact .left hr hp
      · exact h.rch _ hk
  · by_cases ek : k = at_
    · subst ek
      rw [hp] at hp'
      cases hp'
      exact ⟨set_mono (set_self (by rw [h.len]; omega)), set_self (by rw [List.length_set, h.len]; omega)⟩
    · have hk2 : m[k]? = some true := by
        rcases set_mark hm' with rfl | hm'
        · omega
        · rcases set_mark hm' with rfl | hm'
          · omega
          · exact hm'
      have := h.clo k o' a' b' (by omega) hk2 hp'
      exact ⟨set_mono (set_mono this.1), set_mono (set_mono this.2)⟩
def markL (m : List Bool) (j : Nat) : List Nat := (List.range j).filter fun k => decide (m[k]? = some true)
theorem markL_yes {m : List Bool} {j : Nat} (h : m[j]? = some true) : markL m (j + 1) = markL m j ++ [j] := by
  unfold markL; rw [List.range_succ, List.filter_append]; simp [h]
theorem markL_no {m : List Bool} {j : Nat} (h : ¬ m[j]? = some true) : markL m (j + 1) = markL m j := by
  unfold markL; rw [List.range_succ, List.filter_append]; simp [h]
theorem markL_len (m : List Bool) (j : Nat) : (markL m j).length ≤ j := by
  unfold markL; exact Nat.le_trans (List.length_filter_le _ _) (by simp)
theorem MInv.done {ps : List Part} {i : Nat} {m : List Bool} (h : MInv ps i m ps.length) (wf : WF ps) (hi : i < ps.length) : ReachL ps i (markL m ps.length) := by
  refine ⟨List.Pairwise.filter _ List.pairwise_lt_range, fun k => ?_⟩
  have back : Reach ps i k → m[k]? = some true := by
    intro r
    induction r with
    | self => exact h.root
    | left r e ih => exact (h.clo _ _ _ _ (by omega) ih e).1
    | right r e ih => exact (h.clo _ _ _ _ (by omega) ih e).2
  unfold markL
  rw [List.mem_filter, List.mem_range]
  exact ⟨fun z => h.rch k (of_decide_eq_true z.2), fun r => ⟨by have := r.le wf; omega, decide_eq_true (back r)⟩⟩
end My

/-! R7 -/
namespace My
open PySem L2
theorem dpAll_parts {K : PySem.W.Frag} {H : Hp} : ∀ (ts : List Addr) (ps : List Part), ts.length = ps.length → (∀ (i : Nat) (p : Part), ps[i]? = some p → ∃ t, ts[i]? = some t ∧ H t = some (.tup p.vals)) → DpAll K H (ts.map V.ref) (ps.map Part.pd)
  | [], [], _, _ => .nil
  | [], p :: ps, h, _ => by cases h
  | t :: ts, [], h, _ => by cases h
  | t :: ts, p :: ps, h, g => by
    obtain ⟨t', e, ht⟩ := g 0 p rfl
    cases e
    exact .cons (dp_part ht) (dpAll_parts ts ps (by simpa using h) fun i q e => g (i + 1) q e)
theorem dp_list {K : PySem.W.Frag} {H : Hp} {l : Addr} {ps : List Part} (h : LAt H l ps) : Dp K H (.ref l) (.list (ps.map Part.pd)) := by
  obtain ⟨ts, h1, h2, h3⟩ := h
  exact .lst (SqL.of h1) (dpAll_parts ts ps h2 h3)
theorem depth_part (p : Part) : p.pd.depth ≤ 2 := by cases p <;> simp [Part.pd, PyData.depth, PyData.depthAll]
theorem lay_part (p : Part) : p.pd.canLay0 = true := by
  have := shaped_part p
  unfold SeqAt.shaped at this
  simp at this; exact this.1
theorem depthAll_parts : ∀ ps : List Part, PyData.depthAll (ps.map Part.pd) ≤ 3
  | [] => by simp [PyData.depthAll]
  | p :: ps => by
    have := depthAll_parts ps
    have := depth_part p
    simp [PyData.depthAll]; omega
theorem layAll_parts : ∀ ps : List Part, PyData.canLayAll0 (ps.map Part.pd) = true
  | [] => by simp [PyData.canLayAll0]
  | p :: ps => by
    simp [PyData.canLayAll0, layAll_parts ps, lay_part p]
theorem shaped_list (ps : List Part) : SeqAt.shaped (.list (ps.map Part.pd)) = true := by
  have h1 := layAll_parts ps
  have h2 := depthAll_parts ps
  simp [SeqAt.shaped, PyData.canLay0, PyData.depth, h1]; omega
theorem eqvAll_parts : ∀ ps : List Part, PyData.eqvAll (ps.map Part.pd) (ps.map Part.pd) = true
  | [] => by simp [PyData.eqvAll]
  | p :: ps => by simp [PyData.eqvAll, eqv_pd, eqvAll_parts ps]
theorem eqL {K : PySem.W.Frag} {H : Hp} {l m : Addr} {ps : List Part} {Q : VK} (hl : LAt H l ps) (hm : LAt H m ps) (h : Q (.bl true) H) : rEqD K (.ref l) (.ref m) H Q :=
  ⟨_, _, dp_list hl, dp_list hm, shaped_list ps, shaped_list ps, by
    have : PyData.eqv (.list (ps.map Part.pd)) (.list (ps.map Part.pd)) = true := by simp [PyData.eqv, eqvAll_parts]
    rw [this]; exact h⟩
end My

/-! Kit3 -/
/-! own exception classes over Exception (or over own classes over it) with an __init__ that stores -/
namespace My
open PySem PySem.Spec PyProof.Rows L2
abbrev exB : List Value := [.type "Exception", .type "BaseException", .type "object"]
theorem exB_has (Y : String) (bm : List Value) (h : PySem.W.excTail exB bm = true) : bm.contains (.type Y) = exB.contains (.type Y) := PySem.W.excTail_contains Y bm h
section
open Builtin Builtin.ObjectAttr
variable {prog : Program} {w : World} {A : Around} {R : Result → Shared → Prop} {hp : Heap} {g : Array GenState} {d : Drawn} {t : Nat} {os : OsState}
/-- the first field -/
theorem osaE {K : PySem.W.Frag} {nm : Str} {tk : Tok} {u : Value} {x C : Addr} {fv : Array Value} {cd : ClassData} {tl : List Value}
    (X : K.In hp) (ox : hp.get? x = some { cls := .ref C, data := .fields fv }) (ec : PySem.W.clsIn K C = some cd) (em : cd.mro = .ref C :: tl) (et : PySem.W.excTail exB tl = true) (hh : cd.hasDict = true) (no : PySem.W.findIn K (.ref C) nm = some none)
    (fin : ∀ h' tk' dx, (∀ b o, b ≠ x → hp.get? b = some o → h'.get? b = some o) → hp.objs.size ≤ dx → dx ≠ x → h'.get? x = some { cls := .ref C, dict := some dx, data := .fields fv } →
      h'.Ns1 dx (fun y => if y = nm then some u else none) → R (.ok (.ret .none)) ⟨h', g, d, tk', os⟩) :
    codeAny (model prog w) A (.call (.builtin "object.__setattr__") ⟨[.ref x, .str nm tk, u], []⟩) R ⟨hp, g, d, t, os⟩ := by
  have At : PySem.W.InstAt hp x { cls := .ref C, data := .fields fv } C none := ⟨ox, rfl, rfl, trivial⟩
  have SO := F.store_object
  have me : cd.mro.isEmpty = false := by rw [em]; rfl
  have mo : cd.mro.contains (.type "object") = true := by rw [em, List.contains_cons, exB_has _ _ et, show exB.contains (.type "object") = true by decide +kernel, Bool.or_true]
  have xs : x ≠ hp.objs.size := Nat.ne_of_lt (Heap.lt_size ox)
  have kind : PySem.W.Looks (model prog w) hp (isInstance (.ref x) (.type "object")) true := At.type.andThen (PySem.W.looks_mroIn X (by unfold PySem.W.mroIn; rw [ec, Option.bind_some, if_neg (by rw [me]; decide), mo]))
  refine codeAny_call_builtin SO.slot.plain SO.entry (@PySem.W.check_slot (model prog w) _ _ ⟨hp, g, d, t, os⟩ "object.__setattr__" "object" "__setattr__" (.ref x) [.str nm tk, u] [] _ SO.kind SO.split kind (SO.args (.ref x) (.str nm tk) u) ?_)
  have lm : PySem.W.Looks (model prog w) hp (mroOf (.ref C)) cd.mro := (PySem.W.looks_clsIn X ec).andThen .now
  have l0 : PySem.W.Looks (model prog w) hp (storeTaker? none) none := .now
  have lc : PySem.W.Looks (model prog w) hp (classData C) cd := PySem.W.looks_clsIn X ec
  rw [PySem.W.osa_eq, refuse_eq]
  refine wpAny_bind (wpAny_bind (At.type.at (wpAny_bind (lm.at ?_))))
  rw [em, refuseLoop_ref, PySem.W.excTail_pass _ (PySem.F.store_Exception.passes _) _ et]
  refine wpAny_pure (wpAny_bind (At.type.at (wpAny_bind ((PySem.W.looks_findIn X no).at (wpAny_bind (l0.at ?_))))))
  show wpAny _ _ (storeInOwnDict (.ref x) (.ref C) (.str nm tk) nm u false) _ _ _
  obtain ⟨_, _, _, _, _, hd, _, _, _, _, _⟩ := cd
  simp only at hh
  subst hh
  unfold storeInOwnDict ownDictForStores
  repeat (first | with_reducible refine PySem.HandSPX.store_in_new ?_ ?_ | with_reducible refine wpAny_loadPart_at ox ?_ | with_reducible refine lc.at ?_ | wp_step)
  · exact ⟨_, #[], _, (Heap.get?_update_ne _ _ _ _ xs.symm).trans (Heap.get?_push_at rfl rfl), rfl, fun e he => absurd he (by simp), fun _ => rfl⟩
  · intro h1 tk1 n1 s1
    have ox1 : (hp.push { cls := .type "dict", data := .dict #[] }).get? x = some { cls := .ref C, data := .fields fv } := Heap.get?_push_of_some _ ox
    exact fin h1 tk1 hp.objs.size (fun b o hb ho => (s1.2 b (Nat.ne_of_lt (Heap.lt_size ho))).trans ((Heap.get?_update_ne _ _ _ _ hb).trans (Heap.get?_push_of_some _ ho))) (Nat.le_refl _) xs.symm ((s1.2 x xs).trans (Heap.get?_update_self _ ox1 rfl)) n1
end
/-- what the written part says of such a class -/
structure OexE (K : PySem.W.Frag) (C : Addr) : Prop where
  row : ∃ nm q N bs bm sn sub ab col dd k0 k1 k2 k3 k5, K.lookup C = some (excClassObj nm q C N bs bm true sn sub ab col dd k0 k1 k2 k3 k5 "Exception.__new__") ∧ PySem.W.excTail exB bm = true
  sa : PySem.W.findIn K (.ref C) "__setattr__" = some (some (.builtin "object.__setattr__"))
  ex : PySem.W.subIn K (.ref C) (.type "BaseException") = some true
  ty : PySem.W.typeIn K (.ref C) = some (.type "type")
  kp : PySem.W.keepIn K (.ref C) = true
section
variable {X : Cx} {pins : List (Addr × Obj)} {σ : L2.St} {H : Hp} {s : Shared} {a C dx : Addr} {f : Str} {y : V} {u : Value} {Q : Unit → Shared → Prop} {E : Value → Shared → Prop} {A : Around}
theorem ost1E (T : OexE X.K C) (I : Inv X pins σ H s) (ha : H a = some (exo a C none)) (no : PySem.W.findIn X.K (.ref C) f = some none) (ry : RelV y u)
    (fin : ∀ dx s', H dx = none → dx ≠ a → Inv X pins σ (upd (upd H dx (exd dx [(f, y)])) a (exo a C (some dx))) s' → Q () s') : wpAny (model X.prog X.w) A (setAttr (.ref a) f u) Q E s := by
  obtain ⟨nm, q, N, bs, bm, sn, sub, ab, col, dd, k0, k1, k2, k3, k5, lk, tl⟩ := T.row
  have ec : PySem.W.clsIn X.K C = some { name := nm, bases := bs, mro := .ref C :: bm, ns := N, qualname := q, hasDict := true, slotNames := sn, subclasses := sub, abstract := ab, collection := col, hasDel := false } := by
    unfold PySem.W.clsIn; rw [lk] <;> rfl
  obtain ⟨t1, oa⟩ := exo_at I.hok ha
  obtain ⟨hp, g, d, t, os⟩ := s
  refine PySem.W.set_plain I.kIn (ox := { cls := .ref C, dict := none, data := .fields #[.ref t1, .none, .none, .none, .bool false, .none] }) (od := none) ⟨oa, rfl, rfl, trivial⟩ T.sa ?_
  refine osaE I.kIn oa ec rfl tl rfl no fun h1 tk1 dx kp big dxa hx1 hn1 => ?_
  have hdx : H dx = none := I.hok.fresh big
  have off : ∀ {b : Addr} {o : Obj}, hp.get? b = some o → b ≠ dx := fun {b o} e => Nat.ne_of_lt (Nat.lt_of_lt_of_le (Heap.lt_size e) big)
  have offa : ∀ {b : Addr}, H b = none → b ≠ a := fun {b} e z => by
    rw [z, ha] at e; cases e
  have U : Un X.fs [] H (upd (upd H dx (exd dx [(f, y)])) a (exo a C (some dx))) hp h1 := by
    constructor
    case keep => exact fun b o e n _ _ => kp b o (offa n) e
    case slot => exact fun b o e n _ _ => ⟨o.slots, kp b o (offa n) e⟩
    case free => exact fun b o e n _ => by rw [upd_ne (offa n), upd_ne (off e)]; exact n
    case there =>
      intro b o e _
      by_cases hb : b = a
      · subst hb; exact ⟨_, hx1⟩
      · exact ⟨o, kp b o hb e⟩
    case tups => exact fun b xs e => by rw [upd_ne (at_ne ha e exo_tup), upd_ne (ne_of_none e hdx)]; exact e
    case frzs => exact fun b o v e => by rw [upd_ne (at_ne ha e exo_frz), upd_ne (ne_of_none e hdx)]; exact e
    case tbls => exact fun b ps e => ⟨#[], by rw [upd_ne (at_ne ha e exo_tbl), upd_ne (ne_of_none e hdx), e]; simp⟩
  refine fin dx _ hdx dxa (I.un (t' := tk1) U fun b o e => ?_)
  by_cases hb : b = a
  · subst hb
    rw [upd_same] at e; cases e
    exact exo_ok hx1
  rw [upd_ne hb] at e
  by_cases hd : b = dx
  · subst hd
    rw [upd_same] at e; cases e
    exact exd_ok hn1 (relO_put (fs := []) ry fun _ => True.intro)
  rw [upd_ne hd] at e
  refine (I.hok b o e).stay (fun c v hc z => kp c v ?_ z) (fun c hc => ?_) fun c xs hc => ?_
  · rcases hc with hc | hc
    · rw [hc]; exact hb
    · exact at_ne ha hc exo_own
  · rw [upd_ne (at_ne ha hc exo_own), upd_ne (ne_of_none hc hdx)]; exact hc
  · rw [upd_ne (at_ne ha hc exo_tup), upd_ne (ne_of_none hc hdx)]; exact hc
end
/-- self.f = e within such an __init__: the first one -/
def tOst1 (K : PySem.W.Frag) (f : Str) (to te : TE) : TS := fun D σ H => te σ H fun y H1 => to σ H1 fun x H2 => ∃ a C : Addr, x = .ref a ∧ OexE K C ∧ PySem.W.findIn K (.ref C) f = some none ∧ H2 a = some (exo a C none) ∧
  ∀ dx, H2 dx = none → dx ≠ a → D.nx σ (upd (upd H2 dx (exd dx [(f, y)])) a (exo a C (some dx)))
theorem ps_ost1 {X : Cx} {o e : Expr} {to te : TE} {f : Str} {p' pos : Pos} (ho : PE X o to) (he : PE X e te) (hs : swapsWith e (some (.Attribute o f p')) pos.line X.env = pure false := by rfl) : PS X (.Assign [.Attribute o f p'] e pos) (tOst1 X.K f to te) := by
  refine ⟨fun pins s σ H D I h => plainObj_wpAny_Assign_Attribute (thn (he.run pins s σ H _ I h) fun v s1 ⟨y, H1, I1, r1, q1⟩ => thn (ho.run pins s1 σ H1 _ I1 q1) fun u s2 ⟨x, H2, I2, r2, a, C, ex, T, no, ea, q⟩ => ?_) hs⟩
  subst ex
  obtain rfl : u = Value.ref a := r2
  exact ost1E T I2 ea no r1 fun dx s' n ne J => ⟨σ, _, J, q dx n ne⟩
/-- raise C(e, ..) where C's __init__ keeps sp -/
def tMkE (C : Addr) (sp : Sp) (ta : TA) : L2.St → Hp → XK → Prop := fun σ H Q => ta σ H fun vs H1 => vs.length ≤ 1000 ∧ ∀ a, H1 a = none → sp (.ref a :: vs) (upd H1 a (exo a C none))
  (fun v H2 => v = .non ∧ ∃ (d : Addr) (fs : List (Str × V)), H2 a = some (exo a C (some d)) ∧ H2 d = some (exd d fs) ∧ H1 d = none ∧ Q (.ref C) (some d) (upd (del H2 a) d (.xd fs))) (fun _ _ _ => False)
theorem pmk_E {X : Cx} {e : Expr} {es : List Expr} {ta : TA} {p pos : Pos} {x : Str} {C fI : Addr} {k : Nat} {fd : FuncData} {ps : List Str} {sp : Sp} (T : OexE X.K C) (iC : PySem.W.findIn X.K (.ref C) "__init__" = some (some (.ref fI))) (tI : PySem.W.typeIn X.K (.ref fI) = some (.type "function"))
    (G : FnOk X.prog X.w X.K X.mg X.base CX0 k fI fd ps sp) (hr : Room (k + 1) X.A) (hb : Binds X.K fd ps []) (hg : Gl X x) (hm : X.mg x = some (.ref C)) (ha : PA X (e :: es) ta)
    (nd : (x == ("__debug__" : Str)) = false := by decide) (he : starEach (e :: es) X.env = (false, eval e X.env) :: starEach es X.env := by rfl) (hpl : (backTo pos (starEach es X.env)).any (·.1) = false := by rfl) :
    PMk X (.Call (.Name x p) (e :: es) [] pos) (tMkE C sp ta) := by
  intro pins s σ H Q I h
  obtain ⟨nm, q, N, bs, bm, sn, sub, ab, col, dd, k0, k1, k2, k3, k5, lk, tl⟩ := T.row
  refine wpAny_Call_Name_kw (ld_glob I hg hm ?_ nd)
  refine PySem.W.callWith_K (h₀ := X.base) I.ok.mod.kin T.kp (thn (ha.run pos pins s σ H _ I h) fun us s1 ⟨vs, H1, I1, r1, small, q1⟩ => ⟨I1.kIn, ?_⟩) he hpl
  show wpAny _ _ (call (.ref C) us) _ _ _
  obtain ⟨hp, g, dr, tk, os⟩ := s1
  have le1 : hp.objs.size ≤ hp.objs.size + 1 := Nat.le_succ _
  have hq := q1 (hp.objs.size + 1) (I1.hok.fresh le1)
  have up : ∀ b o, hp.get? b = some o → ((hp.push (PySem.W.kdv_tup us)).push (PySem.HandSPX.excO C hp.objs.size)).get? b = some o := fun b o z => Heap.get?_push_of_some _ (Heap.get?_push_of_some _ z)
  have top : ((hp.push (PySem.W.kdv_tup us)).push (PySem.HandSPX.excO C hp.objs.size)).get? (hp.objs.size + 1) = some (PySem.HandSPX.excO C hp.objs.size) := by heap_get
  have J : Inv X pins σ (upd H1 (hp.objs.size + 1) (exo (hp.objs.size + 1) C none)) ⟨(hp.push (PySem.W.kdv_tup us)).push (PySem.HandSPX.excO C hp.objs.size), g, dr, tk, os⟩ :=
    I1.laid (t' := tk) (a := hp.objs.size + 1) (o := exo (hp.objs.size + 1) C none) up le1 (exo_ok top)
  have rel : Vals (V.ref (hp.objs.size + 1) :: vs) (Value.ref (hp.objs.size + 1) :: us) := .cons rfl r1
  have ln : (Value.ref (hp.objs.size + 1) :: us).length = ps.length := by
    have z := rel.length
    rw [G.len _ _ _ _ hq] at z
    exact z.symm
  have lu : us.length ≤ sizeLine := by
    rw [← Paired.length r1, sizeLine_eq]; omega
  have bd : BindsTo (⟨(hp.push (PySem.W.kdv_tup us)).push (PySem.HandSPX.excO C hp.objs.size), g, dr, tk, os⟩ : Shared) fd ⟨Value.ref (hp.objs.size + 1) :: us, []⟩ (ps.zip (Value.ref (hp.objs.size + 1) :: us)) := by
    have z := hb _ (Value.ref (hp.objs.size + 1) :: us) J.kIn (by simpa using ln)
    simpa using z
  refine wpAny_call (PySem.HandSPX.call_own F.excBase_Exception (fun Y => exB_has Y bm tl) (I1.kIn _ _ lk) (PySem.W.looks_findIn I1.kIn iC) (fun self => PySem.W.bind_fn I1.kIn self tI) lu
    (codeAny_mono (G.run _ X.stack _ _ ⟨Value.ref (hp.objs.size + 1) :: us, []⟩ (Value.ref (hp.objs.size + 1) :: us) _ _ (fun _ _ _ => False) (hr.make C us []) (J.env0.make C us []) bd rel hq) fun r s' z => ?_))
  cases r with
  | error er => exact False.elim z
  | ok fl =>
    cases fl with
    | ret v =>
      obtain ⟨v', H2, os2, bare2, un2, hok2, rv, ev, d, fs, ea, ed, nd1, q2⟩ := z
      subst ev
      obtain ⟨h2, g2, d2, t2, os'⟩ := s'
      exact ⟨rv, mk_end (raises_own T.ex T.ty) I1 le1 up un2 hok2 os2 bare2 ea ed nd1 q2⟩
    | next => exact z.elim
    | brk => exact z.elim
    | cont => exact z.elim
end My

/-! Kit4 -/
/-! a list comprehension whose items may raise -/
namespace My
open PySem PySem.Spec PyProof.Rows L2
section
variable {M : Model} {A : Around} {E : Value → Shared → Prop} {s : Shared} {env : Env}
theorem comp_either {e : Expr} {scope : Scope} {pos : Pos} {mkAcc first : Sem Value} {g : Comprehension} {gs : List Comprehension} {cl : List (Str × Addr)} {Q : Value → Shared → Prop}
    (ec : clausesOf e = g :: gs) (ef : ∀ x, foldedSetIterable g.iter env x = pure x) (eo : closureFor scope env = pure cl) (hk : scope.kind = .function) (hn : ∀ x ∈ scope.names, x.2 = .local → scope.names.lookup x.1 = some .local)
    (h : wpAny M A first (fun x s1 => wpAny M A (pyIter x) (fun it s2 => wpAny M A mkAcc (fun acc s3 => wpAny M A (newFunctionEnv scope env.globals cl [] env.qual none .none (some env)) (fun ce s4 =>
      codeAny M A (.compStart e 0 it acc { ce with scope := relabel scope env }) (fun r s' => ∃ m, s'.heap.Ns ce.locals m ∧ ∀ h', Heap.SameBut ce.locals s'.heap h' →
        match r with | .ok _ => Q acc { s' with heap := h' } | .error x => wpAny M A (PySem.passOn "comprehension.variables-let-go" x { ce with scope := relabel scope env } : Sem Value) (fun _ _ => False) E { s' with heap := h' }) s4) E s3) E s2) E s1) E s) :
    wpAny M A (comprehension e scope env pos mkAcc false first none) Q E s := by
  unfold comprehension
  rw [eo, ec]
  refine wpAny_bind (wpAny_mono h (fun x s1 h1 => ?_) fun _ _ z => z)
  refine wpAny_bind (wpAny_standAt ?_)
  refine wpAny_bind (wpAny_of_eq (ef x) ?_)
  refine wpAny_bind (wpAny_holding (wpAny_mono h1 (fun it s2 h2 => ?_) fun _ _ z => z))
  refine wpAny_standIf ?_
  refine wpAny_bind (wpAny_mono h2 (fun acc s3 h3 => ?_) fun _ _ z => z)
  refine wpAny_bind (wpAny_pure ?_)
  refine wpAny_bind (wpAny_mono h3 (fun ce s4 h4 => ?_) fun _ _ z => z)
  dsimp only
  have loc : ∀ x ∈ (scope.names.filter fun x => (x.2 == .local || x.2 == .cell) && x.1 != (".0" : Str)).reverse, x.2 = .local → Env.kindOf { ce with scope := relabel scope env } x.1 = some .local :=
    fun x hx hl => lookup_relabel_local (hn x (List.mem_filter.mp (List.mem_reverse.mp hx)).1 hl)
  refine wpAny_holding (wpAny_bind (wpAny_attempt (wpAny_holding (wpAny_run (codeAny_mono h4 fun r s' hr => ?_)))))
  obtain ⟨m, ns, go⟩ := hr
  cases r with
  | ok f => exact wpAny_bind (wpAny_holding (wpAny_comp_letGo (cenv := { ce with scope := relabel scope env }) hk _ s' m loc ns fun h' m' _ sb => wpAny_pure (go h' sb)))
  | error x => exact wpAny_bind (wpAny_holding (wpAny_comp_letGo (cenv := { ce with scope := relabel scope env }) hk _ s' m loc ns fun h' m' _ sb => wpAny_mono (go h' sb) (fun _ _ z => z.elim) fun _ _ z => z))
end
theorem ns_up {h h' : Heap} {C : Addr} {m : Str → Option Value} (up : h.UpToSlots h') (n : h.Ns C m) : h'.Ns C m := by
  obtain ⟨o, es, ep, e, d, r⟩ := n
  obtain ⟨sl, e'⟩ := up C o e fun vs z => by rw [d] at z; cases z
  exact ⟨_, es, ep, e', d, r⟩
theorem note_frame {x : Value} {e1 e2 : Env} (h : e1.frame = e2.frame) : noteFrame x e1 = noteFrame x e2 := by
  unfold noteFrame PySem.frameOf; rw [h]
theorem frames_to {h h' B B' : Heap} : ∀ {l : List Env}, h.FunFrames B l → (∀ L ∈ frs l, h'.get? L = h.get? L ∧ (B.get? L = none → B'.get? L = none)) → h'.FunFrames B' l
  | [], _, _ => trivial
  | env :: l, f, k => by
    obtain ⟨hk, ⟨L, o, ef, nb, eo, nf⟩, r⟩ := f
    have hL : L ∈ frs (env :: l) := List.mem_filterMap.mpr ⟨env, List.mem_cons_self, ef⟩
    refine ⟨hk, ⟨L, o, ef, (k L hL).2 nb, (k L hL).1.trans eo, nf⟩, frames_to r fun b hb => k b ?_⟩
    obtain ⟨e', m, q⟩ := List.mem_filterMap.mp hb
    exact List.mem_filterMap.mpr ⟨e', List.mem_cons_of_mem _ m, q⟩
section
variable {X : Cx} {W : WX} {u : Value} {s : Shared}
/-- in the air of X, noted by its frame -/
def XH (X : Cx) (W : WX) (u : Value) (s' : Shared) : Prop :=
  ∃ (a : Addr) (B : Heap) (sI : Shared) (pins : List (Addr × Obj)) (σ : L2.St) (H : Hp) (cls : Value) (d : Option Addr), u = .ref a ∧ Inv X pins σ H sI ∧ (∀ b o, sI.heap.get? b = some o → b ∉ frs X.stack → B.get? b = some o) ∧ sI.heap.UpToSlots s'.heap ∧
    HandSPX.HeldZ B X.stack a (Zc cls d) X.env.locals s'.heap ∧ H a = none ∧ s'.os = sI.os ∧ AllBare s'.gens ∧ W cls d σ H
theorem XH.air (x : XH X W u s) : XE X W u s := by
  obtain ⟨a, B, sI, pins, σ, H, cls, d, e, I, nb, up, sky, r⟩ := x
  exact ⟨a, B, sI, pins, σ, H, cls, d, e, I, nb, up, .inr (.inr sky), r⟩
theorem XE.noted (hs : X.stack = X.env :: X.outer) (hf : X.env.frame = some X.env.locals) (x : XE X W u s) {E : Value → Shared → Prop} {Q : Unit → Shared → Prop} (k : ∀ h', s.heap.UpToSlots h' → XH X W u { s with heap := h' } → Q () { s with heap := h' }) :
    wpAny (model X.prog X.w) X.A (noteFrame u X.env) Q E s := by
  obtain ⟨a, B, sI, pins, σ, H, cls, d, rfl, I, nb, up, sky, na, os, ag, w⟩ := x
  have hfr : X.A.frames = some (X.env :: X.outer) := by rw [I.ok.frames, hs]
  have fin : ∀ h', HandSPX.HeldZ B (X.env :: X.outer) a (Zc cls d) X.env.locals h' → s.heap.UpToSlots h' → Q () { s with heap := h' } := fun h' hh up' =>
    k h' up' ⟨a, B, sI, pins, σ, H, cls, d, rfl, I, nb, up.trans up', by rw [hs]; exact hh, na, os, ag, w⟩
  rw [hs] at sky
  rcases sky with ⟨hB, hn, hl, oe, vs, he, hz, hd, h1⟩ | fl | hh
  · exact HandSPX.look_newZ Zc.steady hfr hl hf he hB hn hd h1 hz fin
  · exact HandSPX.looks_onZ Zc.steady hfr hf fl fin
  · exact HandSPX.againZ hf hh.2.2.2 (fin s.heap hh (Heap.UpToSlots.refl _))
/-- a namespace that nobody tracks changes -/
theorem XH.off {C : Addr} {h' : Heap} {m : Str → Option Value} (x : XH X (fun c d σ H => W c d σ H ∧ H C = none) u s) (ns : s.heap.Ns C m) (sb : Heap.SameBut C s.heap h') (c1 : C ≠ X.env.locals) (c2 : X.s_0.heap.objs.size ≤ C)
    (c3 : ∀ x c, X.env.cells.lookup x = some c → c ≠ C) (c4 : ∀ p ∈ X.pn, p.1 ≠ C) (c5 : C ∉ frs X.stack) : XH X W u { s with heap := h' } := by
  obtain ⟨a, B, sI, pins, σ, H, cls, d, rfl, I, nb, up, ⟨st, an, fr, oe, vs, t, ot, ts, ea, hz, ed, e1, nt, nta, et, edt, e3⟩, na, os, ag, w, hC⟩ := x
  have I0 : Inv X [] σ H sI := ⟨I.ok, I.os, I.bare, I.base, I.loc, I.cell, I.free, I.freeC, fun p hp => I.pin p (List.mem_append_left _ (by simpa using hp)), I.hok, I.len⟩
  obtain ⟨G, g1, g2⟩ := L2.restrict sI.heap fun b => decide (b ≠ C)
  obtain ⟨D, d1, d2⟩ := L2.restrict B fun b => decide (b ≠ C)
  have inG : ∀ b o, G.get? b = some o → sI.heap.get? b = some o ∧ b ≠ C := fun b o e => by
    by_cases hb : b = C
    · rw [g2 b (by simp [hb])] at e; cases e
    · exact ⟨(g1 b (by simp [hb])).symm.trans e, hb⟩
  have inD : ∀ b o, D.get? b = some o → B.get? b = some o ∧ b ≠ C := fun b o e => by
    by_cases hb : b = C
    · rw [d2 b (by simp [hb])] at e; cases e
    · exact ⟨(d1 b (by simp [hb])).symm.trans e, hb⟩
  have offD : ∀ b, B.get? b = none → D.get? b = none := fun b e => by
    cases q : D.get? b with
    | none => rfl
    | some o => rw [(inD b o q).1] at e; cases e
  have dat : ∀ b o vs, s.heap.get? b = some o → o.data = .fields vs → b ≠ C := fun b o vs e f z => by
    obtain ⟨o', es, ep, e', f', _⟩ := ns
    rw [z, e'] at e; cases e
    rw [f'] at f; cases f
  have I1 : Inv X [] σ H { sI with heap := G } := I0.turned (t' := sI.toks) (it := C) (fun b o hb e => (g1 b (by simp [hb])).trans e) hC c1 (.inr c2) c3 (by simpa using c4)
  refine ⟨a, D, { sI with heap := G }, [], σ, H, cls, d, rfl, I1, fun b o e hb => ?_, fun b o e nf => ?_, ⟨fun b o e => ?_, offD a an, ?_, oe, vs, t, ot, ts, ?_, hz, ed, e1, offD t nt, nta, ?_, edt, e3⟩, na, os, ag, w⟩
  · obtain ⟨e', hbC⟩ := inG b o e
    exact (d1 b (by simp [hbC])).trans (nb b o e' hb)
  · obtain ⟨e', hbC⟩ := inG b o e
    obtain ⟨sl, e2⟩ := up b o e' nf
    exact ⟨sl, (sb.2 b hbC).trans e2⟩
  · obtain ⟨e', hbC⟩ := inD b o e
    exact (sb.2 b hbC).trans (st b o e')
  · exact frames_to fr fun L hL => ⟨sb.2 L fun z => c5 (z ▸ hL), offD L⟩
  · exact (sb.2 a (dat a oe vs ea ed)).trans ea
  · exact (sb.2 t (dat t ot ts et edt)).trans et
/-- it is passed on -/
theorem XH.on {what : String} {ce : Env} (x : XH X W u s) (hc : ce.frame = some X.env.locals) (tk : Takes X W) : wpAny (model X.prog X.w) X.A (PySem.passOn what u ce : Sem Value) (fun _ _ => False) X.xe s := by
  obtain ⟨a, B, sI, pins, σ, H, cls, d, rfl, I, nb, up, ⟨st, an, fr, tr⟩, na, os, ag, w⟩ := x
  have tr' := tr
  obtain ⟨oe, vs, t, ot, ts, ea, hz, ed, e1, r⟩ := tr'
  unfold PySem.passOn
  refine wpAny_bind (wpAny_field ea ed e1 ?_)
  rw [if_neg (show ¬ ((Value.ref t == Value.none) = true) from by simp)]
  rw [hc]
  refine wpAny_bind (HandSPX.setFlight_anyZ st fr tr fun h' k1 k2 k3 k4 => wpAny_throw (tk _ _ ?_))
  exact ⟨a, B, sI, pins, σ, H, cls, d, rfl, I, nb, up.trans k4, .inr (.inr ⟨k1, an, k2, k3⟩), na, os, ag, w⟩
end
/-- [elt for tg in iter], an item may raise what E says -/
theorem pe_lcX {X : Cx} {elt tg iter : Expr} {scope : Scope} {own : List (Str × Nat)} {pos : Pos} {wi : TI} {g : TG} {te : TE} {E : XK} (hc : X.calm = true) (hN : X.N.Nodup) (hs : X.stack = X.env :: X.outer) (hf : X.env.frame = some X.env.locals)
    (tk : Takes X fun c d _ H => E c d H) (hi : PI X tg iter wi) (ok : BlkOk X.N X.env.scope scope own)
    (hg : ∀ (s : Shared) (H : Hp) (C : Addr) (cl : List (Str × Addr)) (fp : List Addr), PG (X.blk s H scope (compEnvC scope cl C X.env) fp) tg g)
    (he : ∀ (s : Shared) (H : Hp) (C : Addr) (cl : List (Str × Addr)) (fp : List Addr) (xe : Value → Shared → Prop), Passes (L2.CX X.prog X.w) ((X.blk s H scope (compEnvC scope cl C X.env) fp).wish xe) E → PE ((X.blk s H scope (compEnvC scope cl C X.env) fp).wish xe) elt te)
    (fs : ∀ x, foldedSetIterable iter X.env x = pure x := by intro _; rfl) : PE X (.ListComp elt [⟨tg, iter, [], 0⟩] scope pos) (tLc wi g tYes te (own.map (·.2))) := by
  refine ⟨fun pins s σ H Q I h => ?_⟩
  rw [eval_ListComp]
  have cells : ∀ y ∈ scope.names, y.2 = .free → ∃ c, X.env.cells.lookup y.1 = some c := fun y hy e => (ok.free y hy e).elim (fun k => I.ok.has _ (.inl k)) fun k => I.ok.has _ (.inr k)
  refine comp_either rfl fs (closure_ok cells) ok.kind (fun y hy e => by rw [ok.uniq y hy, e]) (thn (hi.run pins s σ H _ I h) fun xv s1 hx => thn hx fun itv s2 h2 => ?_)
  obtain ⟨it, fp, tn, J, H2, e, I2, T, st2, f2, q⟩ := h2
  subst e
  refine wpAny_newObj_type (newEnv_comp ?_) (by show 0 ≤ sizeLine; decide)
  -- the new list at D, the block's names at C
  have hDn : H2 s2.heap.objs.size = none := I2.hok.fresh (Nat.le_refl _)
  obtain ⟨W, ⟨m0, w0⟩, turn⟩ := q s2.heap.objs.size hDn
  have lay : ObjOk X.prog X.w (upd H2 s2.heap.objs.size (.lst [])) (s2.heap.push { cls := .type "list", data := .seq ([] : List Value).toArray }) s2.heap.objs.size (.lst []) := ⟨Nat.zero_le _, [], 0, .nil, Heap.get?_push_size _ rfl⟩
  have I3 : Inv X pins σ (upd H2 s2.heap.objs.size (.lst [])) { s2 with heap := s2.heap.push { cls := .type "list", data := .seq ([] : List Value).toArray } } := I2.laid (t' := s2.toks) (fun b o z => Heap.get?_push_of_some _ z) (Nat.le_refl _) lay
  have small : ∀ b ∈ fp, b < s2.heap.objs.size := fun b hb => by
    obtain ⟨o, z, _⟩ := T.obj _ _ st2 b hb
    exact Heap.lt_size z
  have f3 : ∀ b ∈ fp, FpOk X pins (upd H2 s2.heap.objs.size (.lst [])) b ∧ b < ({ s2 with heap := s2.heap.push { cls := .type "list", data := .seq ([] : List Value).toArray } } : Shared).heap.objs.size := fun b hb => by
    refine ⟨⟨?_, (f2 b hb).2⟩, ?_⟩
    · rw [upd_ne (Nat.ne_of_lt (small b hb))]; exact (f2 b hb).1
    · show b < (s2.heap.push _).objs.size
      rw [Heap.size_push]; exact Nat.lt_succ_of_lt (small b hb)
  have st3 : tn 0 (s2.heap.push { cls := .type "list", data := .seq ([] : List Value).toArray }) := T.keep _ _ _ st2 fun b _ o z => Heap.get?_push_of_some _ z
  generalize s2.heap.objs.size = D at *
  generalize hs3 : ({ s2 with heap := s2.heap.push { cls := .type "list", data := .seq ([] : List Value).toArray } } : Shared) = s3 at *
  have st3 : tn 0 s3.heap := by rw [← hs3]; exact st3
  have I4 := block_start I3 ok hN f3
  generalize hH3 : upd H2 D (.lst []) = H3 at *
  generalize hcl : cellsFrom (s3.heap.objs.size + 1) scope.names (cloFrom X.env.cells scope.names []) = cl at *
  have pg := hg s3 H3 s3.heap.objs.size cl fp
  have pe := he s3 H3 s3.heap.objs.size cl fp
  have cf : (compEnvC scope cl s3.heap.objs.size X.env).frame = X.env.frame := rfl
  have cL : (compEnvC scope cl s3.heap.objs.size X.env).locals = s3.heap.objs.size := rfl
  show codeAny _ _ (.compStart (.ListComp elt [⟨tg, iter, [], 0⟩] scope pos) 0 (.ref it) (.ref D) (compEnvC scope cl s3.heap.objs.size X.env)) (fun r s' => ∃ m, s'.heap.Ns s3.heap.objs.size m ∧ ∀ h', Heap.SameBut s3.heap.objs.size s'.heap h' →
    match r with | .ok _ => EP X pins σ Q (.ref D) { s' with heap := h' } | .error x => wpAny (model X.prog X.w) X.A (PySem.passOn "comprehension.variables-let-go" x (compEnvC scope cl s3.heap.objs.size X.env) : Sem Value) (fun _ _ => False) X.xe { s' with heap := h' }) { s3 with heap := pushCells (s3.heap.push { cls := .type "dict", data := .dict #[] }) scope.names }
  generalize compEnvC scope cl s3.heap.objs.size X.env = ce at *
  generalize hR : (fun (r : Result) (s' : Shared) => ∃ m, s'.heap.Ns s3.heap.objs.size m ∧ ∀ h', Heap.SameBut s3.heap.objs.size s'.heap h' →
    match r with | .ok _ => EP X pins σ Q (.ref D) { s' with heap := h' } | .error x => wpAny (model X.prog X.w) X.A (PySem.passOn "comprehension.variables-let-go" x ce : Sem Value) (fun _ _ => False) X.xe { s' with heap := h' }) = R
  generalize hs4 : ({ s3 with heap := pushCells (s3.heap.push { cls := .type "dict", data := .dict #[] }) scope.names } : Shared) = s4 at *
  have st4 : tn 0 s4.heap := T.keep _ _ _ st3 fun b _ o z => by rw [← hs4]; exact pushCells_keeps _ _ _ _ (Heap.get?_push_of_some _ z)
  have nfp : ∀ b ∈ fp, H3 b = none := fun b hb => (f3 b hb).1.1
  have stat : ∀ {σ' : L2.St} {H' : Hp} {s' : Shared}, Inv (X.blk s3 H3 scope ce fp) [] σ' H' s' → (∀ b ∈ fp, H' b = none) → ∀ b ∈ fp, FpOk (X.blk s3 H3 scope ce fp) [] H' b := fun {σ' H' s'} J hn b hb =>
    ⟨hn b hb, (J.ok.exf b hb).1, J.ok.exfs b hb, .inl hb, fun x c z => (J.ok.exf b hb).2 x c z, fun p hp => absurd (show p ∈ ([] : List (Addr × Obj)) ++ [] from hp) (by simp)⟩
  -- what the block leaves, in the def's own context
  have back : ∀ {pins' : List (Addr × Obj)} {σ' : L2.St} {H' : Hp} {s' : Shared}, Inv (X.blk s3 H3 scope ce fp) pins' σ' H' s' → Inv X pins σ H' s' ∧ (∃ m, s'.heap.Ns s3.heap.objs.size m) ∧ FpOk X pins H' s3.heap.objs.size := fun {pins' σ' H' s'} J => by
    have nC : H' s3.heap.objs.size = none := cL ▸ (J.free : H' ce.locals = none)
    obtain ⟨m, ns, _⟩ := J.loc
    refine ⟨I3.call' (ch := fp) J.os J.base J.hok J.bare fun b hb => ?_, ⟨m, cL ▸ (ns : s'.heap.Ns ce.locals m)⟩, I3.fpOk (Nat.le_refl _) nC⟩
    obtain ⟨_, b1, _, b3, b4, b5⟩ := (f3 b hb).1
    exact ⟨b3, b1, b4, b5⟩
  have frX : frs X.stack = X.env.locals :: X.fs := by rw [hs]; show frs (X.env :: X.outer) = _; unfold frs; rw [List.filterMap_cons, hf]; rfl
  have loop : codeAny (model X.prog X.w) X.A (.compLoop (.ListComp elt [⟨tg, iter, [], 0⟩] scope pos) 0 (.ref it) (.ref D) ce) R s4 := by
    refine compLoop_any (fun n s' => ∃ i H', Inv (X.blk s3 H3 scope ce fp) [] (wipe σ (own.map (·.2))) H' s' ∧ tn i s'.heap ∧ (∀ b ∈ fp, H' b = none) ∧ W i n H') ?_ m0 ⟨0, H3, I4, st4, nfp, w0⟩
    rintro n s5 ⟨i, H5, I5, st5, n5, w5⟩
    rcases turn i n H5 w5 with ⟨stop, qq⟩ | ⟨go, Nx, hNx, step⟩
    · refine thnF (T.done (X.blk s3 H3 scope ce fp) rfl rfl rfl hc i [] s5 _ H5 (fun _ _ => False) I5 (stat I5 n5) st5 stop) fun r s6 ⟨hr, I6⟩ => ?_
      subst hr
      obtain ⟨I7, ⟨m, ns⟩, _, b1, _, b3, b4, b5⟩ := back I6
      obtain ⟨nC, _⟩ := (back I6).2.2
      rw [← hR]
      exact ⟨m, ns, fun h' sb => ⟨.ref D, H5, I7.turned (t' := s6.toks) (fun b o hb z => (sb.2 b hb).trans z) nC b1 b3 b4 b5, rfl, qq⟩⟩
    refine thnF (T.item (X.blk s3 H3 scope ce fp) rfl rfl rfl hc i [] s5 _ H5 (fun _ _ => False) I5 (stat I5 n5) st5 go) fun r s6 ⟨u, hr, h6⟩ => ?_
    subst hr
    refine thnF h6 fun _ s7 ⟨x, H7, I7, r7, y7, st7, n7⟩ => ?_
    refine thnF (pg.run _ s7 _ H7 x u _ (I7.pinned (stat I7 n7) (T.obj _ _ st7)) r7 (step x H7 y7)) fun _ s8 ⟨σ8, H8, I8, hw8, q8⟩ => ?_
    refine thnF ((pts_nil (X := X.blk s3 H3 scope ce fp)).run _ s8 σ8 H8 _ I8 q8) fun b s9 ⟨H9, I9, q9⟩ => ?_
    have fin : ∀ {s' : Shared} {H' : Hp}, Inv (X.blk s3 H3 scope ce fp) ([] ++ pinsAt fp s7.heap) σ8 H' s' → Nx H' → ∃ m, m < n ∧ ∃ i H', Inv (X.blk s3 H3 scope ce fp) [] (wipe σ (own.map (·.2))) H' s' ∧ tn i s'.heap ∧ (∀ b ∈ fp, H' b = none) ∧ W i m H' := fun {s' H'} J nx => by
      obtain ⟨m', lt, w'⟩ := hNx H' nx
      have kept : ∀ b ∈ fp, ∀ o, s7.heap.get? b = some o → s'.heap.get? b = some o ∧ H' b = none := fun b hb o z => by
        have p := J.pin (b, o) (List.mem_append_right _ (List.mem_append_right _ (mem_pinsAt hb z)))
        exact ⟨p.1, p.2.1⟩
      have ln : (wipe σ (own.map (·.2))).length = σ8.length := by rw [← hw8, wipe_length]
      refine ⟨m', lt, i + 1, H', (J.unpinned (pins := [])).weak ln fun j v z => ?_, T.keep _ _ _ st7 fun b hb o z => (kept b hb o z).1, fun b hb => ?_, w'⟩
      · rw [← hw8] at z
        exact (wipe_some z).1
      · obtain ⟨o, z, _⟩ := T.obj _ _ st7 b hb
        exact (kept b hb o z).2
    cases b with
    | false =>
      rw [if_neg Bool.false_ne_true] at q9 ⊢
      exact fin I9 q9
    | true =>
      rw [if_pos rfl] at q9 ⊢
      have run := (pe (fun v s' => ∃ pins' σ' H' s0, Inv (X.blk s3 H3 scope ce fp) pins' σ' H' s0 ∧ L2.CX X.prog X.w X.stack H' s0 E v s') fun pins' σ' H' s0 v s' J c => ⟨pins', σ', H', s0, J.unwish, c⟩).run _ s9 σ8 H9 _ (I9.wish _) q9
      refine wpAny_mono run (fun z s10 ⟨yv, H10, J10, r10, acc, hD10, hz10, nx⟩ => ?_) fun v s' ⟨pins', σ', H', s0, J, c⟩ => ?_
      · exact wpAny_mono (app_ok (X := X.blk s3 H3 scope ce fp) (E := fun _ _ => False) J10.unwish hD10 hz10 r10 fun s11 I11 => fin I11 nx) (fun _ _ z => z) fun _ _ z => z.elim
      · obtain ⟨IX, ⟨m, ns0⟩, nC, b1, b2, b3, b4, b5⟩ := back J
        have notF : s3.heap.objs.size ∉ frs X.stack := by rw [frX]; intro z; rcases List.mem_cons.mp z with z | z; exact b1 z; exact b2 z
        obtain ⟨a, B, H'', cls, d, eu, fl, hok, ub, na, os, ag, hE⟩ := c
        have ns1 : s'.heap.Ns s3.heap.objs.size m := by
          obtain ⟨o, es, ep, eo, r⟩ := ns0
          exact ⟨o, es, ep, fl.1 _ _ (ub.keep _ o eo nC notF), r⟩
        have nC2 : H'' s3.heap.objs.size = none := by
          obtain ⟨o, es, ep, eo, r⟩ := ns0
          exact ub.free _ o eo nC
        have air : XE X (fun c d _ H => E c d H ∧ H s3.heap.objs.size = none) v s' := XE.of_call (E := fun c d H => E c d H ∧ H s3.heap.objs.size = none) IX (fun _ _ _ z => z) ⟨a, B, H'', cls, d, eu, fl, hok, ub, na, os, ag, hE, nC2⟩
        show wpAny _ _ (noteFrame v ce) _ _ _
        rw [note_frame cf, ← hR]
        exact XE.noted hs hf air fun h' up xh => ⟨m, ns_up up ns1, fun h2 sb => (xh.off (W := fun c d _ H => E c d H) (ns_up up ns1) sb b1 I3.sz b4 (fun p hp => b5 p (List.mem_append_left _ hp)) notF).on (cf.trans hf) tk⟩
  exact codeAny_compStart_list loop (T.self X.A 0 _ _ _ st4 loop)
end My

/-! Kit5 -/
namespace My
open PySem PySem.Spec PyProof.Rows L2
/-- o.m(..), what it may let out told at the slots -/
def tMethS (C : Addr) (m : Str) (sp : Sp) (E : L2.St → XK) (ta : TE) (t : TA) : TE := fun σ H Q => ta σ H fun x H1 => ∃ a dx fs, x = .ref a ∧ H1 a = some (.ins C dx fs) ∧ fs.lookup m = none ∧ t σ H1 fun vs H2 => sp (.ref a :: vs) H2 Q (E σ)
theorem pe_methS {X : Cx} {CX : CXT} {k : Nat} {f C : Addr} {fd : FuncData} {ps : List Str} {sp : Sp} {E : L2.St → XK} {m : Str} {pos apos : Pos} {o e : Expr} {es : List Expr} {ta : TE} {t : TA} {pl : Sem Bool} (he : PE X o ta) (c : Cls X.K C) (hm : Meth X.K C m f) (F : FnOk X.prog X.w X.K X.mg X.base CX k f fd ps sp) (hr : Room k X.A) (hb : Binds X.K fd ps []) (hx : ∀ σ, PassesAt CX X σ (E σ)) (ha : PA X (e :: es) t)
    (hst : starEach (e :: es) X.env = (false, eval e X.env) :: starEach es X.env := by rfl) (hpl : (backTo pos (starEach es X.env)).any (·.1) = false := by rfl)
    (ht : eval (.Call (.Attribute o m apos) (e :: es) [] pos) X.env = (do
      let ov ← eval o X.env; standAt apos.atName
      let (f, first) ← holding [ov] (getMethod ov m pl); callWith pos f first (backTo pos (starEach (e :: es) X.env)) (backToKw pos (keywordEach [] X.env))) := by rfl) :
    PE X (.Call (.Attribute o m apos) (e :: es) [] pos) (tMethS C m sp E ta t) := by
  refine ⟨fun pins s σ H Q I h => PySem.W.methodCall_KW (pl := pl) (thn (he.run pins s σ H _ I h) fun u s1 ⟨x, H1, I1, rx, a, dx, fs, ex, ea, l, q⟩ => ?_) ht⟩
  subst ex
  obtain rfl : u = Value.ref a := rx
  refine getmeth_ok I1 ea c hm l ?_
  exact PySem.W.callWith_K (first := [.ref a]) (h₀ := X.base) I.ok.mod.kin hm.kp (thn (ha.run pos pins s1 σ H1 _ I1 q) fun us s2 ⟨vs, H2, I2, r, q2⟩ => ⟨I2.kIn, run_fnS (us := .ref a :: us) (vs := .ref a :: vs) F hr hb (hx σ) I2 (.cons rfl r) q2⟩) hst hpl
/-- what an exception's __init__ leaves: the dict alone -/
theorem del_init {H : Hp} {a dx : Addr} {o o2 o3 o4 : HO} (ha : H a = none) (hne : dx ≠ a) : upd (del (upd (upd (upd H a o) dx o2) a o3) a) dx o4 = upd H dx o4 := by
  funext b
  by_cases h1 : b = dx
  · subst h1; rw [upd_same, upd_same]
  · rw [upd_ne h1, upd_ne h1]
    by_cases h2 : b = a
    · subst h2; rw [del_same, ha]
    · rw [del_ne h2, upd_ne h2, upd_ne h1, upd_ne h2]
/-- self.f = v in the __init__ of an exception -/
def sp_exinit (C : Addr) (f : Str) : Sp := fun vs H Q _ => ∃ (a : Addr) (v : V), vs = [.ref a, v] ∧ H a = some (exo a C none) ∧ ∀ dx, H dx = none → dx ≠ a → Q .non (upd (upd H dx (exd dx [(f, v)])) a (exo a C (some dx)))
theorem sp_exinit_len {C : Addr} {f : Str} {vs H Q E} (h : sp_exinit C f vs H Q E) : vs.length = 2 := by obtain ⟨_, _, rfl, _⟩ := h; rfl
/-- raise C(v): what the def's own way out must bear -/
theorem raiseE {C : Addr} {f : Str} {H : Hp} {v : V} {Q : XK} {R : XK} (k : ∀ d, H d = none → Q (.ref C) (some d) (upd H d (.xd [(f, v)]))) : ([v] : List V).length ≤ 1000 ∧ ∀ a, H a = none → sp_exinit C f (.ref a :: [v]) (upd H a (exo a C none))
    (fun u H2 => u = .non ∧ ∃ (d : Addr) (fs : List (Str × V)), H2 a = some (exo a C (some d)) ∧ H2 d = some (exd d fs) ∧ H d = none ∧ Q (.ref C) (some d) (upd (del H2 a) d (.xd fs))) R := by
  refine ⟨by show 1 ≤ 1000; decide, fun a ha => ⟨a, v, rfl, upd_same, fun dx hdx hne => ⟨rfl, dx, [(f, v)], upd_same, ?_, ?_, ?_⟩⟩⟩
  · rw [upd_ne hne, upd_same]
  · rw [upd_ne hne] at hdx; exact hdx
  · rw [del_init ha hne]
    rw [upd_ne hne] at hdx
    exact k dx hdx
/-- over a list or a tuple that stands at a name -/
def iSeq (i : Nat) : TI := fun σ H R => ∃ (a : Addr) (ys : List V), σ[i]? = some (some (.ref a)) ∧ (H a = some (.lst ys) ∨ H a = some (.tup ys)) ∧ ∀ (J : It) (G : Hp → Prop), Walk J ys.length G (YAt ys) → (∀ H' : Hp, H' a = H a → G H') → R J H
theorem pi_seq {X : Cx} {tg : Expr} (i : Nat) {x : Str} {pos : Pos} (hN : X.N[i]? = some x := by rfl) (hv : Vis X.env.scope x := by first | exact Or.inl rfl | exact Or.inr (Or.inl rfl) | exact Or.inr (Or.inr rfl)) (hd : (x == ("__debug__" : Str)) = false := by decide)
    (hcd : (x == ("__classdict__" : Str)) = false := by decide) : PI X tg (.Name x pos) (iSeq i) := by
  refine ⟨fun pins s σ H R I ⟨a, ys, e, h, k⟩ => ?_⟩
  rcases h with h | h
  · exact (pi_list (pv i hN hv hd hcd)).run pins s σ H R I ⟨_, e, a, rfl, ⟨ys, SqL.of h⟩, k _ _ walk_list fun H' q => SqL.of (q.trans h)⟩
  · exact (pi_tup (pv i hN hv hd hcd)).run pins s σ H R I ⟨_, e, a, rfl, ⟨ys, SqT.of h⟩, k _ _ walk_tup fun H' q => SqT.of (q.trans h)⟩
/-- isinstance(x, (list, tuple)) -/
theorem k_il : kitB "int" "list" = some false := by decide +kernel
theorem k_it : kitB "int" "tuple" = some false := by decide +kernel
theorem k_bl' : kitB "bool" "list" = some false := by decide +kernel
theorem k_bt : kitB "bool" "tuple" = some false := by decide +kernel
def Row (H : Hp) (a : Addr) (ys : List V) : Prop := H a = some (.lst ys) ∨ H a = some (.tup ys)
theorem Row.news {H H' : Hp} {a : Addr} {ys : List V} (h : Row H a ys) (s : Same H H') : Row H' a ys := h.elim (fun z => .inl (s _ _ z)) fun z => .inr (s _ _ z)
theorem Row.eq {H H' : Hp} {a : Addr} {ys : List V} (h : Row H a ys) (s : Same H H') : H' a = H a := by
  rcases h with z | z
  · rw [z]; exact s _ _ z
  · rw [z]; exact s _ _ z
end My

/-! Kit6 -/
/-! sorted(d), its keys ints, any number of them -/
namespace My
open PySem PySem.Spec PyProof.Rows L2
theorem keys_ints {us : List Value} {ks : List Int} {vs : List (Key × Value)} (hl : us.length = vs.length) (hk : vs.map (·.1) = ks.map Sum.inl)
    (h : ∀ (j : Nat) (v : Value), us[j]? = some v → ∃ (k : Key) (x : Value), vs[j]? = some (k, x) ∧ keyIs k v = true) : IntsAre us ks := by
  have e := keys_at hl h
  have e2 : (vs.map fun p => kV p.1) = ks.map V.int := by
    have := congrArg (List.map kV) hk
    rw [List.map_map, List.map_map] at this
    exact this
  rw [e2] at e
  exact e.ints
/-- a list of ints that was laid just now is sorted -/
theorem sort_fresh {X : Cx} {pins : List (Addr × Obj)} {σ : L2.St} {H : Hp} {s : Shared} {A : Around} {E : Value → Shared → Prop} {R : PySem.Fin → Shared → Prop} {vs : List Value} {ks : List Int} (I : Inv X pins σ H s) (hi : IntsAre vs ks) (hz : vs.length ≤ sizeLine)
    (k : ∀ (ys : List Int) (s' : Shared), ys.Perm ks → ys.Pairwise (· ≤ ·) → H s.heap.objs.size = none → Inv X pins σ (upd H s.heap.objs.size (.lst (ys.map V.int))) s' → R (.done (.ret .none)) s') :
    wpAny (model X.prog X.w) A (Builtin.«list.sort» ⟨[.ref s.heap.objs.size], []⟩) R E { s with heap := s.heap.push (seqObj "list" vs.toArray 0) } := by
  have ho : (s.heap.push (seqObj "list" vs.toArray 0)).get? s.heap.objs.size = some (seqObj "list" vs.toArray 0) := Heap.get?_push_size _ rfl
  refine SrtO.list_sort_ord (s := { s with heap := s.heap.push (seqObj "list" vs.toArray 0) }) SrtO.swo_int ho hz (fun h2 => SrtO.ints_sortable hi h2) fun out h1 h2 => ?_
  obtain ⟨k1, k2, k3⟩ := SrtO.ints_out hi h1 h2
  obtain ⟨ep, he⟩ := PyProof.Rows.sortedHeap_at (vs := vs) (out := out.toArray) ho
  have hn : ks.length = vs.length := by rw [← SrtO.iv_ints hi, List.length_map]
  have hlen : ((out.map SrtO.iv).map V.int).length ≤ sizeLine := by
    rw [List.length_map, k2.length_eq, hn]; exact hz
  refine k _ _ k2 k3 (I.hok.fresh (Nat.le_refl _)) (I.laid (t' := s.toks) (fun b u e => ?_) (Nat.le_refl _) (show ObjOk X.prog X.w _ _ _ (.lst ((out.map SrtO.iv).map V.int)) from ⟨hlen, out, ep, vals_of_ints k1, he⟩))
  have hb : b < s.heap.objs.size := Heap.lt_size e
  rw [PyProof.Rows.sortedHeap_old (Nat.ne_of_lt hb) (by rw [size_push']; exact Nat.lt_succ_of_lt hb)]
  exact Heap.get?_push_of_some _ e
theorem cr_sortedDA {X : Cx} (hcalm : X.calm = true) : CallR X (.builtin "sorted") (fun xs H Q => ∃ (a : Addr) (kvs : List (Key × V)) (ks : List Int), xs = [.ref a] ∧ Rd H a (.dK kvs) ∧ kvs.map (·.1) = ks.map Sum.inl ∧ ks.length ≤ sizeLine ∧
    ∀ (ys : List Int) (p : Addr), ys.Perm ks → ys.Pairwise (· ≤ ·) → H p = none → Q (.ref p) (upd H p (.lst (ys.map V.int)))) := by
  rintro pins s σ H xs us Q I r ⟨a, kvs, ks, rfl, hd, hks, hz, q⟩
  obtain ⟨u, rfl, rx⟩ := vals1 r
  cases rx
  obtain ⟨z, lo, vs, rel, dd⟩ := dk_rd I.hok hd
  obtain ⟨ep, hat⟩ := dd.dictAt
  have hkeys := rel.keys.symm.trans hks
  have hl : vs.length = ks.length := by simpa using congrArg List.length hkeys
  refine Calls.call_function_entry PyProof.Rows.kind_sorted PyProof.Rows.plain_sorted PyProof.Rows.entry_sorted (PyProof.Rows.args_sorted1 _) ?_
  unfold Builtin.«sorted»
  refine wpAny_bind (m := checkCount "sorted" 1 1 _) (wpAny_pure ?_)
  refine wpAny_bind (PySem.W.kdu_collect (A := X.A.in1) (PySem.W.kdl_dict (knd := mixKind X.prog X.w) (kvs := vs) (ep := ep) lo) (I.ok.hd hcalm) hat (by omega) fun h' tk acc hk hacc => ?_)
  have hal : acc.toList.length = vs.length := by rw [Array.length_toList, hacc.1]
  have hI := keys_ints hal hkeys fun j v e => hacc.2 j v (by rw [← Array.getElem?_toList]; exact e)
  have I1 : Inv X pins σ H { s with heap := h', toks := tk } := I.kept hk
  refine wpAny_bind (wpAny_newList ?_ (by omega))
  have hoL : (h'.push (seqObj "list" acc.toList.toArray 0)).get? h'.objs.size = some (seqObj "list" acc.toList.toArray 0) := Heap.get?_push_size _ rfl
  show wpAny _ _ _ _ _ { s with heap := h'.push (seqObj "list" acc.toList.toArray 0), toks := tk }
  refine wpAny_bind (wpAny_holding (wpAny_call_entry PyProof.Rows.slot_list_sort ⟨_, hoL, rfl⟩ PyProof.Rows.entry_list_sort (sort_fresh I1 hI (by omega) fun ys s' g1 g2 g3 J => ⟨_, rfl, ?_⟩) (PyProof.Rows.args_list_sort _)))
  exact wpAny_pure ⟨_, rfl, .ref _, _, J, rfl, q ys _ g1 g2 g3⟩
end My

/-! RS -/
/-! what several parts are made of -/
namespace My
open PySem L2
def ReachS (ps : List Part) (S : List Nat) (k : Nat) : Prop := ∃ i ∈ S, Reach ps i k
theorem ReachS.self {ps : List Part} {S : List Nat} {i : Nat} (h : i ∈ S) : ReachS ps S i := ⟨i, h, .self⟩
theorem ReachS.left {ps : List Part} {S : List Nat} {k : Nat} {o : Op} {a b : Nat} (h : ReachS ps S k) (e : ps[k]? = some (Part.op o a b)) : ReachS ps S a := by
  obtain ⟨i, m, r⟩ := h; exact ⟨i, m, .left r e⟩
theorem ReachS.right {ps : List Part} {S : List Nat} {k : Nat} {o : Op} {a b : Nat} (h : ReachS ps S k) (e : ps[k]? = some (Part.op o a b)) : ReachS ps S b := by
  obtain ⟨i, m, r⟩ := h; exact ⟨i, m, .right r e⟩
theorem ReachS.lt {ps : List Part} {S : List Nat} {k N : Nat} (wf : WF ps) (hS : ∀ i ∈ S, i < N) (h : ReachS ps S k) : k < N := by
  obtain ⟨i, m, r⟩ := h
  have := r.le wf; have := hS i m; omega
structure ReachLS (ps : List Part) (S : List Nat) (ks : List Nat) : Prop where
  asc : ks.Pairwise (· < ·)
  mem : ∀ k, k ∈ ks ↔ ReachS ps S k
theorem ReachLS.uniq {ps : List Part} {S : List Nat} {ks ls : List Nat} (h : ReachLS ps S ks) (h' : ReachLS ps S ls) : ks = ls := asc_ext h.asc h'.asc fun k => (h.mem k).trans (h'.mem k).symm
theorem ReachLS.same {ps : List Part} {S S' : List Nat} {ks : List Nat} (h : ReachLS ps S ks) (e : ∀ i, i ∈ S ↔ i ∈ S') : ReachLS ps S' ks :=
  ⟨h.asc, fun k => (h.mem k).trans ⟨fun ⟨i, m, r⟩ => ⟨i, (e i).mp m, r⟩, fun ⟨i, m, r⟩ => ⟨i, (e i).mpr m, r⟩⟩⟩
theorem ReachLS.one {ps : List Part} {i : Nat} {ks : List Nat} (h : ReachLS ps [i] ks) : ReachL ps i ks :=
  ⟨h.asc, fun k => (h.mem k).trans ⟨fun ⟨j, m, r⟩ => by simp at m; subst m; exact r, fun r => ⟨i, by simp, r⟩⟩⟩
theorem ReachL.many {ps : List Part} {i : Nat} {ks : List Nat} (h : ReachL ps i ks) : ReachLS ps [i] ks :=
  ⟨h.asc, fun k => (h.mem k).trans ⟨fun r => ⟨i, by simp, r⟩, fun ⟨j, m, r⟩ => by simp at m; subst m; exact r⟩⟩
theorem ReachLS.len {ps : List Part} {S ks : List Nat} (wf : WF ps) (hS : ∀ i ∈ S, i < ps.length) (h : ReachLS ps S ks) : ks.length ≤ ps.length :=
  nodup_lt (h.asc.imp fun q => Nat.ne_of_lt q) fun k hk => ((h.mem k).mp hk).lt wf hS
theorem dk_in {F : List Nat} {k : Nat} (h : k ∈ F) : putK (dk F) (Sum.inl (k : Int)) (.bl true) = dk F := by
  unfold putK dk
  rw [if_pos (List.any_eq_true.mpr ⟨(Sum.inl ((k : Nat) : Int), V.bl true), List.mem_map.mpr ⟨k, h, rfl⟩, by simp⟩), List.map_map]
  refine List.map_congr_left fun j _ => ?_
  show (if (Sum.inl ((j : Nat) : Int) : Key) = Sum.inl (k : Int) then (Sum.inl ((j : Nat) : Int), V.bl true) else (Sum.inl ((j : Nat) : Int), V.bl true)) = _
  split <;> rfl
def addS (F : List Nat) (k : Nat) : List Nat := if k ∈ F then F else F ++ [k]
theorem dk_add (F : List Nat) (k : Nat) : putK (dk F) (Sum.inl (k : Int)) (.bl true) = dk (addS F k) := by
  unfold addS; split
  · rename_i h; exact dk_in h
  · rename_i h; exact dk_put h
structure Seeds (S : List Nat) (F : List Nat) : Prop where
  nd : F.Nodup
  sub : ∀ k ∈ F, k ∈ S
  all : ∀ k ∈ S, k ∈ F
theorem seeds_nil : Seeds [] [] := ⟨by simp, by simp, by simp⟩
theorem Seeds.add {S F : List Nat} (h : Seeds S F) (k : Nat) : Seeds (S ++ [k]) (addS F k) := by
  unfold addS; split
  · rename_i m
    refine ⟨h.nd, fun j hj => List.mem_append_left _ (h.sub j hj), fun j hj => ?_⟩
    rcases List.mem_append.mp hj with hj | hj
    · exact h.all j hj
    · simp at hj; subst hj; exact m
  · rename_i m
    refine ⟨List.nodup_append.mpr ⟨h.nd, by simp, by intro a ha b hb; simp at hb; subst hb; exact fun e => m (e ▸ ha)⟩, fun j hj => ?_, fun j hj => ?_⟩
    · rcases List.mem_append.mp hj with hj | hj
      · exact List.mem_append_left _ (h.sub j hj)
      · exact List.mem_append_right _ hj
    · rcases List.mem_append.mp hj with hj | hj
      · exact List.mem_append_left _ (h.all j hj)
      · exact List.mem_append_right _ hj
/-- found and waiting -/
structure FWS (ps : List Part) (S F W : List Nat) : Prop where
  nd : F.Nodup
  sub : ∀ k ∈ W, k ∈ F
  rch : ∀ k ∈ F, ReachS ps S k
  all : ∀ k ∈ S, k ∈ F
  clo : ∀ k ∈ F, k ∉ W → ∀ (o : Op) (a b : Nat), ps[k]? = some (Part.op o a b) → a ∈ F ∧ b ∈ F
structure MidS (ps : List Part) (S : List Nat) (s : List Nat × List Nat) (j : Nat) : Prop where
  nd : s.1.Nodup
  sub : ∀ k ∈ s.2, k ∈ s.1
  rch : ∀ k ∈ s.1, ReachS ps S k
  all : ∀ k ∈ S, k ∈ s.1
  clo : ∀ k ∈ s.1, k ∉ s.2 → k ≠ j → ∀ (o : Op) (a b : Nat), ps[k]? = some (Part.op o a b) → a ∈ s.1 ∧ b ∈ s.1
theorem Seeds.fw {ps : List Part} {S F : List Nat} (h : Seeds S F) : FWS ps S F F := ⟨h.nd, fun _ m => m, fun k m => .self (h.sub k m), h.all, fun k m n => absurd m n⟩
theorem MidS.add {ps : List Part} {S : List Nat} {s : List Nat × List Nat} {j k : Nat} (m : MidS ps S s j) (r : ReachS ps S k) : MidS ps S (addN s k) j := by
  by_cases h : k ∈ s.1
  · rw [addN_in h]; exact m
  · rw [addN_new h]
    refine ⟨List.nodup_append.mpr ⟨m.nd, by simp, by intro a ha b hb; simp at hb; subst hb; exact fun e => h (e ▸ ha)⟩, fun z hz => ?_, fun z hz => ?_, fun z hz => List.mem_append_left _ (m.all z hz), fun z hz hn hj o a b e => ?_⟩
    · exact (List.mem_append.mp hz).elim (fun hz => List.mem_append_left _ (m.sub z hz)) fun hz => List.mem_append_right _ hz
    · rcases List.mem_append.mp hz with hz | hz
      · exact m.rch z hz
      · simp at hz; subst hz; exact r
    · rcases List.mem_append.mp hz with hz | hz
      · have := m.clo z hz (fun q => hn (List.mem_append_left _ q)) hj o a b e
        exact ⟨List.mem_append_left _ this.1, List.mem_append_left _ this.2⟩
      · exact absurd (List.mem_append_right _ hz) hn
theorem FWS.mid {ps : List Part} {S F W : List Nat} {j : Nat} (f : FWS ps S F (W ++ [j])) : MidS ps S (F, W) j :=
  ⟨f.nd, fun k m => f.sub k (List.mem_append_left _ m), f.rch, f.all, fun k hk hn hj o a b e => f.clo k hk (by simp [hn, hj]) o a b e⟩
theorem MidS.fw {ps : List Part} {S : List Nat} {s : List Nat × List Nat} {j : Nat} (m : MidS ps S s j) (h : ∀ (o : Op) (a b : Nat), ps[j]? = some (Part.op o a b) → a ∈ s.1 ∧ b ∈ s.1) : FWS ps S s.1 s.2 :=
  ⟨m.nd, m.sub, m.rch, m.all, fun k hk hn o a b e => by
    by_cases hj : k = j
    · subst hj; exact h o a b e
    · exact m.clo k hk hn hj o a b e⟩
end My

/-! P1 -/
namespace My
open PySem L2
def natL (pl : List Nat) : List V := pl.map fun (k : Nat) => V.int (k : Nat)
theorem natL_len (pl : List Nat) : (natL pl).length = pl.length := by unfold natL; simp
theorem natL_at {pl : List Nat} {a : Nat} (h : a < pl.length) : atI (natL pl) (a : Nat) = some (.int (pl.getD a 0 : Nat)) := by
  refine at_of (j := a) rfl ?_
  unfold natL
  rw [List.getElem?_map, List.getD_eq_getElem?_getD, List.getElem?_eq_getElem h]; rfl
theorem natL_get {pl : List Nat} {j : Nat} {x : V} (h : (natL pl)[j]? = some x) : ∃ k, pl[j]? = some k ∧ x = .int (k : Nat) := by
  unfold natL at h
  rw [List.getElem?_map] at h
  obtain ⟨k, e, rfl⟩ := Option.map_eq_some_iff.mp h
  exact ⟨k, e, rfl⟩
theorem natL_snoc (pl : List Nat) (k : Nat) : natL (pl ++ [k]) = natL pl ++ [.int (k : Nat)] := by unfold natL; rw [List.map_append]; rfl
theorem natL_take (pl : List Nat) (j : Nat) : (natL pl).take j = natL (pl.take j) := by unfold natL; rw [List.map_take]
theorem natL_inj : ∀ {a b : List Nat}, natL a = natL b → a = b
  | [], [], _ => rfl
  | [], _ :: _, h => by simp [natL] at h
  | _ :: _, [], h => by simp [natL] at h
  | x :: a, y :: b, h => by
    unfold natL at h
    rw [List.map_cons, List.map_cons] at h
    injection h with h1 h2
    injection h1 with h1
    rw [Int.ofNat.inj h1, natL_inj (a := a) (b := b) h2]
theorem dk_kV (F : List Nat) : (dk F).map (fun kv => kV kv.1) = natL F := by unfold dk natL; rw [List.map_map]; rfl
/-- what is found at the start -/
def fromS (S : List Nat) : List Nat := S.foldl addS []
theorem fromS_succ {S : List Nat} {j k : Nat} (h : S[j]? = some k) : fromS (S.take (j + 1)) = addS (fromS (S.take j)) k := by
  unfold fromS; rw [List.take_add_one, h, List.foldl_append]; rfl
theorem fromS_seeds (S : List Nat) : ∀ j, Seeds (S.take j) (fromS (S.take j))
  | 0 => by rw [List.take_zero]; exact seeds_nil
  | j + 1 => by
    cases h : S[j]? with
    | none =>
      have : S.length ≤ j := by simpa using h
      have ih := fromS_seeds S j
      rw [List.take_of_length_le this] at ih
      rw [List.take_of_length_le (by omega)]; exact ih
    | some k =>
      rw [fromS_succ h, List.take_add_one, h]
      exact (fromS_seeds S j).add k
/-- an ascending row of the numbers that were found -/
theorem asc_of {F : List Nat} {ys : List Int} (nd : F.Nodup) (h1 : ys.Perm (F.map fun k => ((k : Nat) : Int))) (h2 : ys.Pairwise (· ≤ ·)) : ∃ ks : List Nat, ys = ks.map (fun k => ((k : Nat) : Int)) ∧ ks.Pairwise (· < ·) ∧ ∀ z, z ∈ ks ↔ z ∈ F := by
  obtain ⟨ks, rfl⟩ : ∃ ks : List Nat, ys = ks.map (fun k => ((k : Nat) : Int)) := by
    refine ⟨ys.map Int.toNat, ?_⟩
    rw [List.map_map]
    conv => lhs; rw [← List.map_id ys]
    refine List.map_congr_left fun y hy => ?_
    have := (h1.mem_iff).mp hy
    rw [List.mem_map] at this
    obtain ⟨z, _, rfl⟩ := this
    rfl
  have hmem : ∀ z, z ∈ ks ↔ z ∈ F := fun z => by
    have e := h1.mem_iff (a := ((z : Nat) : Int))
    rw [List.mem_map, List.mem_map] at e
    constructor
    · intro m
      obtain ⟨z', m', e'⟩ := e.mp ⟨z, m, rfl⟩
      rwa [Int.ofNat.inj e'] at m'
    · intro m
      obtain ⟨z', m', e'⟩ := e.mpr ⟨z, m, rfl⟩
      rwa [Int.ofNat.inj e'] at m'
  have hnd : ks.Nodup := by
    have h1 : (ks.map fun k => ((k : Nat) : Int)).Nodup := h1.nodup_iff.mpr (List.pairwise_map.mpr (nd.imp fun h e => h (Int.ofNat.inj e)))
    exact (List.pairwise_map.mp h1).imp fun h e => h (by rw [e])
  refine ⟨ks, rfl, ?_, hmem⟩
  have h1 : ks.Pairwise (fun a b => ((a : Nat) : Int) ≤ b) := List.pairwise_map.mp h2
  exact (h1.and hnd).imp fun {a b} ⟨h1, h2⟩ => by omega
/-- the unknowns among some parts -/
def getAt (ps : List Part) (k : Nat) : Option Int := match ps[k]? with | some (.get g) => some g | _ => none
def getsOf (ps : List Part) (ks : List Nat) : List Int := ks.filterMap (getAt ps)
theorem getsOf_snoc (ps : List Part) (ks : List Nat) (k : Nat) : getsOf ps (ks ++ [k]) = getsOf ps ks ++ (getAt ps k).toList := by
  unfold getsOf; rw [List.filterMap_append]
  cases h : getAt ps k <;> simp [h]
theorem getAt_get {ps : List Part} {k : Nat} {g : Int} (h : ps[k]? = some (.get g)) : getAt ps k = some g := by unfold getAt; rw [h]
theorem getAt_num {ps : List Part} {k : Nat} {g : Int} (h : ps[k]? = some (.num g)) : getAt ps k = none := by unfold getAt; rw [h]
theorem getAt_op {ps : List Part} {k : Nat} {o : Op} {a b : Nat} (h : ps[k]? = some (.op o a b)) : getAt ps k = none := by unfold getAt; rw [h]
theorem mem_gets {ps : List Part} {ks : List Nat} {g : Int} (h : g ∈ getsOf ps ks) : ∃ k ∈ ks, ps[k]? = some (.get g) := by
  unfold getsOf at h
  obtain ⟨k, hk, e⟩ := List.mem_filterMap.mp h
  refine ⟨k, hk, ?_⟩
  unfold getAt at e
  split at e
  · rename_i e'; cases e; exact e'
  · cases e
theorem sorted_uniq : ∀ {xs ys : List Int}, xs.Perm ys → xs.Pairwise (· ≤ ·) → ys.Pairwise (· ≤ ·) → xs = ys
  | [], ys, h, _, _ => h.nil_eq
  | x :: xs, [], h, _, _ => absurd h.length_eq (by simp)
  | x :: xs, y :: ys, h, hx, hy => by
    obtain ⟨hx1, hx2⟩ := List.pairwise_cons.mp hx
    obtain ⟨hy1, hy2⟩ := List.pairwise_cons.mp hy
    have e : x = y := by
      have m1 : x ∈ y :: ys := h.mem_iff.mp List.mem_cons_self
      have m2 : y ∈ x :: xs := h.mem_iff.mpr List.mem_cons_self
      rcases List.mem_cons.mp m1 with e | m1
      · exact e
      · rcases List.mem_cons.mp m2 with e | m2
        · exact e.symm
        · have := hy1 _ m1; have := hx1 _ m2; omega
    subst e
    rw [sorted_uniq (h.cons_inv) hx2 hy2]
end My

/-! P2 -/
namespace My
open PySem L2
/-! ### rows, and what is made of them: plain Lean -/
/-- one row made: its number and the parts behind it -/
def mPart (n : Nat) (ps : List Part) (r : Part) (pl : List Nat) : Nat × List Part := match r with
  | .op o a b => mApply n ps o (pl.getD a 0) (pl.getD b 0)
  | p => mk ps p
/-- the row's operands stand ahead, and what was made stands in the pool -/
structure RowIn (n : Nat) (ps : List Part) (r : Part) (pl : List Nat) : Prop where
  ahead : ∀ o a b, r = .op o a b → a < pl.length ∧ b < pl.length
  there : ∀ k ∈ pl, k < ps.length
  ok : PartOk n r
theorem RowIn.at {n : Nat} {ps : List Part} {r : Part} {pl : List Nat} (h : RowIn n ps r pl) {a : Nat} (ha : a < pl.length) : pl.getD a 0 < ps.length := by
  rw [List.getD_eq_getElem?_getD, List.getElem?_eq_getElem ha]
  exact h.there _ (List.getElem_mem ha)
/-- drawn rows: unknowns below u, operands ahead -/
structure Rows (n u : Nat) (plain : Bool) (rs : List Part) : Prop where
  ok : Ok n rs
  gets : ∀ (k : Nat) (g : Int), rs[k]? = some (Part.get g) → g < u
  pln : plain = true → ∀ (k : Nat) (o : Op) (a b : Nat), rs[k]? = some (Part.op o a b) → o ≠ .less ∧ o ≠ .same
def RowOk (n u : Nat) (plain : Bool) (len : Nat) (p : Part) : Prop := Ahead len p ∧ PartOk n p ∧ (∀ g, p = Part.get g → g < u) ∧ (plain = true → ∀ o a b, p = Part.op o a b → o ≠ .less ∧ o ≠ .same)
theorem rows_nil (n u : Nat) (plain : Bool) : Rows n u plain [] := ⟨ok_nil n, fun _ _ e => by simp at e, fun _ _ _ _ _ e => by simp at e⟩
theorem snoc_at {ps : List Part} {p q : Part} {k : Nat} (e : (ps ++ [p])[k]? = some q) : ps[k]? = some q ∨ (k = ps.length ∧ q = p) := by
  by_cases hk : k < ps.length
  · rw [List.getElem?_append_left hk] at e; exact .inl e
  · have hl := (List.getElem?_eq_some_iff.mp e).1
    rw [List.length_append, List.length_singleton] at hl
    have ek : k = ps.length := by omega
    subst ek
    rw [List.getElem?_append_right (Nat.le_refl _), Nat.sub_self] at e
    cases e
    exact .inr ⟨rfl, rfl⟩
theorem Rows.snoc {n u : Nat} {plain : Bool} {rs : List Part} {p : Part} (h : Rows n u plain rs) (hp : RowOk n u plain rs.length p) : Rows n u plain (rs ++ [p]) := by
  obtain ⟨h1, h2, h3, h4⟩ := hp
  refine ⟨ok_snoc h.ok h1 h2, fun k g e => ?_, fun q k o a b e => ?_⟩
  · rcases snoc_at e with e | ⟨_, e⟩
    · exact h.gets k g e
    · exact h3 g e.symm
  · rcases snoc_at e with e | ⟨_, e⟩
    · exact h.pln q k o a b e
    · exact h4 q o a b e.symm
/-! ### all rows made -/
def mStep (n : Nat) (st : List Part × List Nat) (r : Part) : List Part × List Nat := ((mPart n st.1 r st.2).2, st.2 ++ [(mPart n st.1 r st.2).1])
def mAll (n : Nat) (rs : List Part) : List Part × List Nat := rs.foldl (mStep n) ([], [])
theorem mAll_snoc (n : Nat) (rs : List Part) (r : Part) : mAll n (rs ++ [r]) = mStep n (mAll n rs) r := by unfold mAll; rw [List.foldl_append]; rfl
theorem rowOk_at {n u : Nat} {plain : Bool} {rs : List Part} (h : Rows n u plain rs) {k : Nat} {p : Part} (e : rs[k]? = some p) : RowOk n u plain k p := by
  refine ⟨?_, ?_, fun g eg => ?_, fun hp o a b eo => ?_⟩
  · cases p with
    | op o a b => exact h.ok.wf _ _ _ _ e
    | _ => trivial
  · cases p with
    | op o a b => trivial
    | get g => exact h.ok.get _ _ e
    | num v => exact h.ok.num _ _ e
  · subst eg; exact h.gets _ _ e
  · subst eo; exact h.pln hp _ _ _ _ e
/-- a part put into well made parts -/
theorem rows_mk {n u : Nat} {plain : Bool} {ps : List Part} {p : Part} (h : Rows n u plain ps) (hp : RowOk n u plain ps.length p) : Rows n u plain (mk ps p).2 := by
  unfold mk; split
  · exact h
  · exact h.snoc hp
theorem rowOk_num {n u : Nat} {plain : Bool} {len : Nat} {v : Int} (h : 0 ≤ v ∧ v < 2 ^ n) : RowOk n u plain len (.num v) := ⟨trivial, h, fun g e => (by cases e), fun _ o a b e => by cases e⟩
theorem rows_fin {n u : Nat} (h1 : 1 ≤ n) {plain : Bool} {ps : List Part} (h : Rows n u plain ps) {o : Op} {a b : Nat} (ha : a < ps.length) (hb : b < ps.length) (hpl : plain = true → o ≠ .less ∧ o ≠ .same) (s : Sh) : Rows n u plain (fin ps o a b s).2 := by
  cases s
  · exact h
  · exact h
  · exact rows_mk h (rowOk_num ⟨Int.le_refl _, pow_pos' n⟩)
  · exact rows_mk h (rowOk_num ⟨by decide, one_lt h1⟩)
  · exact rows_mk h ⟨⟨ha, hb⟩, trivial, fun g e => (by cases e), fun hp o' a' b' e => (by cases e; exact hpl hp)⟩
theorem rows_mApply {n u : Nat} (h1 : 1 ≤ n) {plain : Bool} {ps : List Part} (h : Rows n u plain ps) {o : Op} {a b : Nat} (ha : a < ps.length) (hb : b < ps.length) (hpl : plain = true → o ≠ .less ∧ o ≠ .same) : Rows n u plain (mApply n ps o a b).2 := by
  unfold mApply; split
  · rename_i x y ea eb
    exact rows_mk h (rowOk_num (opI_range h1 (word_ok h.ok ea) (word_ok h.ok eb)))
  · split
    · exact rows_fin h1 h hb ha hpl _
    · exact rows_fin h1 h ha hb hpl _
/-- what holds behind the rows made -/
structure AInv (n u : Nat) (plain : Bool) (rs : List Part) (st : List Part × List Nat) : Prop where
  rows : Rows n u plain st.1
  plen : st.2.length = rs.length
  len : st.1.length ≤ rs.length
  there : ∀ k ∈ st.2, k < st.1.length
theorem AInv.rowIn {n u : Nat} {plain : Bool} {rs : List Part} {st : List Part × List Nat} (h : AInv n u plain rs st) {r : Part} (hr : RowOk n u plain rs.length r) : RowIn n st.1 r st.2 :=
  ⟨fun o a b e => by have := hr.1; subst e; rw [h.plen]; exact this, h.there, hr.2.1⟩
theorem AInv.step {n u : Nat} (h1 : 1 ≤ n) {plain : Bool} {rs : List Part} {st : List Part × List Nat} (h : AInv n u plain rs st) {r : Part} (hr : RowOk n u plain rs.length r) :
    AInv n u plain (rs ++ [r]) (mStep n st r) ∧ st.1 <+: (mStep n st r).1 ∧ (mPart n st.1 r st.2).1 < (mStep n st r).1.length := by
  have hin := h.rowIn hr
  have key : Rows n u plain (mPart n st.1 r st.2).2 ∧ (mPart n st.1 r st.2).1 < (mPart n st.1 r st.2).2.length ∧ (mPart n st.1 r st.2).2.length ≤ st.1.length + 1 ∧ st.1 <+: (mPart n st.1 r st.2).2 := by
    cases r with
    | num v => exact ⟨rows_mk h.rows (rowOk_num hr.2.1), mk_lt _ _, mk_len _ _, mk_pre _ _⟩
    | get g => exact ⟨rows_mk h.rows ⟨trivial, hr.2.1, hr.2.2.1, fun _ o a b e => by cases e⟩, mk_lt _ _, mk_len _ _, mk_pre _ _⟩
    | op o a b =>
      obtain ⟨ha, hb⟩ := hin.ahead o a b rfl
      exact ⟨rows_mApply h1 h.rows (hin.at ha) (hin.at hb) (fun hp => hr.2.2.2 hp o a b rfl), mApply_lt (hin.at ha) (hin.at hb), mApply_len _ _ _ _ _, mApply_pre _ _ _ _ _⟩
  refine ⟨⟨key.1, ?_, ?_, fun k hk => ?_⟩, key.2.2.2, key.2.1⟩
  · show (st.2 ++ [_]).length = _
    rw [List.length_append, List.length_append, h.plen]; rfl
  · show (mPart n st.1 r st.2).2.length ≤ _
    rw [List.length_append, List.length_singleton]
    have := h.len; have := key.2.2.1; omega
  · rcases List.mem_append.mp hk with hk | hk
    · have := h.there k hk
      have := key.2.2.2.length_le
      show k < (mPart n st.1 r st.2).2.length
      omega
    · simp at hk; subst hk; exact key.2.1
theorem aInv_nil (n u : Nat) (plain : Bool) : AInv n u plain [] ([], []) := ⟨rows_nil _ _ _, rfl, Nat.le_refl _, fun k h => by simp at h⟩
theorem Rows.take {n u : Nat} {plain : Bool} {rs : List Part} (h : Rows n u plain rs) (j : Nat) : Rows n u plain (rs.take j) := by
  have at_ : ∀ {k : Nat} {p : Part}, (rs.take j)[k]? = some p → rs[k]? = some p := fun {k p} e => by
    have hk := (List.getElem?_eq_some_iff.mp e).1
    rw [List.length_take] at hk
    rw [List.getElem?_take, if_pos (by omega)] at e; exact e
  exact ⟨⟨fun k o a b e => h.ok.wf k o a b (at_ e), fun k g e => h.ok.get k g (at_ e), fun k v e => h.ok.num k v (at_ e)⟩, fun k g e => h.gets k g (at_ e), fun q k o a b e => h.pln q k o a b (at_ e)⟩
theorem mAll_inv {n u : Nat} (h1 : 1 ≤ n) {plain : Bool} {rs : List Part} (h : Rows n u plain rs) : ∀ j, AInv n u plain (rs.take j) (mAll n (rs.take j)) := by
  intro j
  induction j with
  | zero => rw [List.take_zero]; exact aInv_nil _ _ _
  | succ j ih =>
    by_cases hj : j < rs.length
    · obtain ⟨p, hp⟩ : ∃ p, rs[j]? = some p := ⟨_, List.getElem?_eq_getElem hj⟩
      rw [take_snoc hp, mAll_snoc]
      have hl : (rs.take j).length = j := by rw [List.length_take]; omega
      exact (ih.step h1 (by rw [hl]; exact rowOk_at h hp)).1
    · rw [List.take_of_length_le (by omega)]
      rw [List.take_of_length_le (by omega)] at ih
      exact ih
/-! ### what apply keeps -/
theorem and_nat (a b : Nat) : Builtin.bitAnd (a : Int) (b : Int) = ((a &&& b : Nat) : Int) := by simp [Builtin.bitAnd]
theorem or_nat (a b : Nat) : Builtin.bitOr (a : Int) (b : Int) = ((a ||| b : Nat) : Int) := by rw [Bits.bitOr_pp (by omega) (by omega), Int.toNat_natCast, Int.toNat_natCast]
theorem xor_nat (a b : Nat) : Builtin.bitXor (a : Int) (b : Int) = ((a ^^^ b : Nat) : Int) := by rw [Bits.bitXor_pp (by omega) (by omega), Int.toNat_natCast, Int.toNat_natCast]
def Gd (n : Nat) (x : Int) : Prop := 0 ≤ x ∧ x < 2 ^ n
theorem Gd.nat {n : Nat} {x : Int} (h : Gd n x) : ∃ a : Nat, x = a ∧ a < 2 ^ n := by
  obtain ⟨a, rfl⟩ := Int.eq_ofNat_of_zero_le h.1
  exact ⟨a, rfl, by have := h.2; exact_mod_cast this⟩
theorem Gd.mod {n : Nat} {x : Int} (h : Gd n x) : x % 2 ^ n = x := Int.emod_eq_of_lt h.1 h.2
theorem and_most {n : Nat} {x : Int} (h : Gd n x) : Builtin.bitAnd x (2 ^ n - 1) = x := by
  have e : Builtin.bitAnd x (2 ^ n - 1) = x % 2 ^ n := PySem.W.kbt_mask x n
  rw [e, h.mod]
theorem and_comm' {x y : Int} (hx : 0 ≤ x) (hy : 0 ≤ y) : Builtin.bitAnd x y = Builtin.bitAnd y x := by
  obtain ⟨a, rfl⟩ := Int.eq_ofNat_of_zero_le hx
  obtain ⟨b, rfl⟩ := Int.eq_ofNat_of_zero_le hy
  rw [and_nat, and_nat, Nat.and_comm]
theorem or_comm' {x y : Int} (hx : 0 ≤ x) (hy : 0 ≤ y) : Builtin.bitOr x y = Builtin.bitOr y x := by
  obtain ⟨a, rfl⟩ := Int.eq_ofNat_of_zero_le hx
  obtain ⟨b, rfl⟩ := Int.eq_ofNat_of_zero_le hy
  rw [or_nat, or_nat, Nat.or_comm]
theorem xor_comm' {x y : Int} (hx : 0 ≤ x) (hy : 0 ≤ y) : Builtin.bitXor x y = Builtin.bitXor y x := by
  obtain ⟨a, rfl⟩ := Int.eq_ofNat_of_zero_le hx
  obtain ⟨b, rfl⟩ := Int.eq_ofNat_of_zero_le hy
  rw [xor_nat, xor_nat, Nat.xor_comm]
theorem op_comm {n : Nat} {o : Op} {x y : Int} (h : either o = true) (hx : Gd n x) (hy : Gd n y) : opI n o x y = opI n o y x := by
  cases o <;> simp only [opI] <;> first | (cases h) | skip
  · rw [Int.add_comm]
  · exact and_comm' hx.1 hy.1
  · exact or_comm' hx.1 hy.1
  · exact xor_comm' hx.1 hy.1
  · by_cases e : x = y
    · subst e; rfl
    · rw [if_neg e, if_neg (fun z => e z.symm)]
theorem or_zero' {x : Int} (hx : 0 ≤ x) : Builtin.bitOr x 0 = x ∧ Builtin.bitOr 0 x = x := by
  obtain ⟨a, rfl⟩ := Int.eq_ofNat_of_zero_le hx
  have h1 := or_nat a 0
  have h2 := or_nat 0 a
  simp at h1 h2
  exact ⟨h1, h2⟩
theorem xor_zero' {x : Int} (hx : 0 ≤ x) : Builtin.bitXor x 0 = x ∧ Builtin.bitXor 0 x = x := by
  obtain ⟨a, rfl⟩ := Int.eq_ofNat_of_zero_le hx
  have h1 := xor_nat a 0
  have h2 := xor_nat 0 a
  simp at h1 h2
  exact ⟨h1, h2⟩
theorem and_zero' {x : Int} (hx : 0 ≤ x) : Builtin.bitAnd x 0 = 0 ∧ Builtin.bitAnd 0 x = 0 := by
  obtain ⟨a, rfl⟩ := Int.eq_ofNat_of_zero_le hx
  have h1 := and_nat a 0
  have h2 := and_nat 0 a
  simp at h1 h2
  exact ⟨h1, h2⟩
theorem self_bits {x : Int} (hx : 0 ≤ x) : Builtin.bitAnd x x = x ∧ Builtin.bitOr x x = x ∧ Builtin.bitXor x x = 0 := by
  obtain ⟨a, rfl⟩ := Int.eq_ofNat_of_zero_le hx
  rw [and_nat, or_nat, xor_nat]
  simp
def shSays (n : Nat) (o : Op) (x y : Int) : Sh → Prop
  | .one => opI n o x y = x | .other => opI n o x y = y | .zero => opI n o x y = 0 | .unit => opI n o x y = 1 | .no => True
theorem twice_sound {n : Nat} {o : Op} {x : Int} (hx : Gd n x) : o ≠ .and → shSays n o x x (shTwice o) := by
  intro ho
  have s := self_bits hx.1
  cases o <;> simp [shTwice, shSays, opI, s] <;> exact ho rfl
theorem short_sound {n : Nat} {o : Op} {fa fb : Option Int} {eq : Bool} {x y : Int} (hx : Gd n x) (hy : Gd n y) (ha : ∀ v, fa = some v → x = v) (hb : ∀ v, fb = some v → y = v) (he : eq = true → x = y) : shSays n o x y (shortR o fa fb eq (2 ^ n - 1)) := by
  unfold shortR
  split
  · rename_i h
    obtain ⟨h1, h2⟩ := h
    have e := ha 0 h2
    subst e
    rcases h1 with rfl | rfl | rfl
    · show (0 + y) % 2 ^ n = y; rw [Int.zero_add, hy.mod]
    · exact (or_zero' hy.1).2
    · exact (xor_zero' hy.1).2
  split
  · rename_i _ h
    obtain ⟨h1, h2⟩ := h
    have e := hb 0 h2
    subst e
    rcases h1 with rfl | rfl | rfl
    · show (x + 0) % 2 ^ n = x; rw [Int.add_zero, hx.mod]
    · exact (or_zero' hx.1).1
    · exact (xor_zero' hx.1).1
  split
  · rename_i ho
    subst ho
    unfold shAnd
    split
    · rename_i h
      rcases h with h | h
      · have e := ha 0 h; subst e; exact (and_zero' hy.1).2
      · have e := hb 0 h; subst e; exact (and_zero' hx.1).1
    split
    · rename_i _ h
      have e := ha _ h; subst e
      show Builtin.bitAnd _ y = y
      rw [and_comm' hx.1 hy.1]; exact and_most hy
    split
    · rename_i _ _ h
      rcases h with h | h
      · have e := hb _ h; subst e; exact and_most hx
      · have e := he h; subst e; exact (self_bits hx.1).1
    · trivial
  split
  · rename_i h
    obtain ⟨h1, h2⟩ := h
    have e := hb 0 h1
    subst e; subst h2
    show (x - 0) % 2 ^ n = x; rw [Int.sub_zero, hx.mod]
  split
  · rename_i h
    obtain ⟨h1, h2⟩ := h
    have e := hb 0 h1
    subst e; subst h2
    show (if x < 0 then (1 : Int) else 0) = 0
    rw [if_neg (by have := hx.1; omega)]
  split
  · rename_i ho _ _ h
    have e := he h
    subst e
    exact twice_sound hx ho
  · trivial
def EnvG (n : Nat) (env : Int → Int) : Prop := ∀ g, Gd n (env g)
theorem evAt_gd {n : Nat} (h1 : 1 ≤ n) {env : Int → Int} (he : EnvG n env) {ps : List Part} (h : Ok n ps) : ∀ k, Gd n (evAt n env ps k) := by
  intro k
  induction k using Nat.strongRecOn with
  | ind k ih =>
    by_cases hk : k < ps.length
    · obtain ⟨p, hp⟩ : ∃ p, ps[k]? = some p := ⟨_, List.getElem?_eq_getElem hk⟩
      rw [evAt_eq h.wf hp]
      cases p with
      | num v => exact h.num _ _ hp
      | get g => exact he g
      | op o a b =>
        have := h.wf _ _ _ _ hp
        exact opI_range h1 (ih a this.1) (ih b this.2)
    · have e : evAt n env ps k = 0 := by
        unfold evAt
        rw [List.getD_eq_getElem?_getD, List.getElem?_eq_none (by rw [evs_len]; omega)]; rfl
      rw [e]; exact ⟨Int.le_refl _, pow_pos' n⟩
theorem wordOf_num {ps : List Part} {a : Nat} {x : Int} (e : wordOf ps a = some x) : ps[a]? = some (.num x) := by
  unfold wordOf at e
  cases q : ps[a]? with
  | none => rw [q] at e; cases e
  | some p =>
    rw [q] at e
    cases p with
    | num v => cases e; rfl
    | get i => cases e
    | op o a b => cases e
theorem wordOf_ev {n : Nat} {env : Int → Int} {ps : List Part} (wf : WF ps) {a : Nat} {x : Int} (e : wordOf ps a = some x) : evAt n env ps a = x := by
  rw [evAt_eq wf (wordOf_num e)]
theorem mk_ev {n : Nat} {env : Int → Int} {ps : List Part} {p : Part} (wf : WF (mk ps p).2) : evAt n env (mk ps p).2 (mk ps p).1 = match p with | .num v => v | .get i => env i | .op o a b => opI n o (evAt n env (mk ps p).2 a) (evAt n env (mk ps p).2 b) := by
  rw [evAt_eq wf (mk_at ps p)]; cases p <;> rfl
theorem fin_ev {n : Nat} (h1 : 1 ≤ n) {env : Int → Int} {ps : List Part} (h : Ok n ps) {o : Op} {a b : Nat} (ha : a < ps.length) (hb : b < ps.length) {s : Sh} (hs : shSays n o (evAt n env ps a) (evAt n env ps b) s) :
    evAt n env (fin ps o a b s).2 (fin ps o a b s).1 = opI n o (evAt n env ps a) (evAt n env ps b) := by
  have wf := (ok_fin h1 h (o := o) ha hb s).wf
  cases s with
  | one => exact hs.symm
  | other => exact hs.symm
  | zero => exact (mk_ev wf).trans hs.symm
  | unit => exact (mk_ev wf).trans hs.symm
  | no =>
    refine (mk_ev wf).trans ?_
    show opI n o (evAt n env (mk ps (.op o a b)).2 a) (evAt n env (mk ps (.op o a b)).2 b) = _
    rw [evAt_pre (mk_pre _ _) ha, evAt_pre (mk_pre _ _) hb]
theorem mApply_ev {n : Nat} (h1 : 1 ≤ n) {env : Int → Int} (he : EnvG n env) {ps : List Part} (h : Ok n ps) {o : Op} {a b : Nat} (ha : a < ps.length) (hb : b < ps.length) :
    evAt n env (mApply n ps o a b).2 (mApply n ps o a b).1 = opI n o (evAt n env ps a) (evAt n env ps b) := by
  have ga := evAt_gd h1 he h a
  have gb := evAt_gd h1 he h b
  have okm := ok_mApply h1 h (o := o) ha hb
  unfold mApply at okm ⊢
  split
  · rename_i x y ea eb
    rw [ea, eb] at okm
    rw [wordOf_ev h.wf ea, wordOf_ev h.wf eb]
    exact mk_ev okm.wf
  · clear okm
    split
    · rename_i hc
      rw [fin_ev h1 h hb ha (short_sound gb ga (fun v e => wordOf_ev h.wf e) (fun v e => wordOf_ev h.wf e) fun e => by rw [of_decide_eq_true e])]
      exact op_comm hc.1 gb ga
    · exact fin_ev h1 h ha hb (short_sound ga gb (fun v e => wordOf_ev h.wf e) (fun v e => wordOf_ev h.wf e) fun e => by rw [of_decide_eq_true e])
/-! ### rows made have the words of the rows -/
theorem evs_getD (n : Nat) (env : Int → Int) (ps : List Part) (k : Nat) : (evs n env ps).getD k 0 = evAt n env ps k := rfl
theorem mAll_ev {n u : Nat} (h1 : 1 ≤ n) {plain : Bool} {rs : List Part} (h : Rows n u plain rs) {env : Int → Int} (he : EnvG n env) : ∀ j, j ≤ rs.length → ∀ k, k < j → evAt n env (mAll n (rs.take j)).1 ((mAll n (rs.take j)).2.getD k 0) = evAt n env rs k := by
  intro j
  induction j with
  | zero => intro _ k hk; omega
  | succ j ih =>
    intro hj k hk
    obtain ⟨r, hr⟩ : ∃ p, rs[j]? = some p := ⟨_, List.getElem?_eq_getElem (by omega)⟩
    have hl : (rs.take j).length = j := by rw [List.length_take]; omega
    have inv := mAll_inv h1 h j
    have rk : RowOk n u plain (rs.take j).length r := by rw [hl]; exact rowOk_at h hr
    obtain ⟨st1, st2, st3⟩ := inv.step h1 rk
    have hin := inv.rowIn rk
    have pl : (mAll n (rs.take j)).2.length = j := by rw [inv.plen, hl]
    rw [take_snoc hr, mAll_snoc]
    have old : ∀ i, i < j → evAt n env (mStep n (mAll n (rs.take j)) r).1 ((mAll n (rs.take j)).2.getD i 0) = evAt n env rs i := fun i hi => by
      rw [evAt_pre st2 (by rw [List.getD_eq_getElem?_getD, List.getElem?_eq_getElem (by omega)]; exact inv.there _ (List.getElem_mem (by omega)))]
      exact ih (by omega) i hi
    have e2 : (mStep n (mAll n (rs.take j)) r).2 = (mAll n (rs.take j)).2 ++ [(mPart n (mAll n (rs.take j)).1 r (mAll n (rs.take j)).2).1] := rfl
    rw [e2]
    by_cases hkj : k < j
    · rw [List.getD_eq_getElem?_getD, List.getElem?_append_left (by omega), ← List.getD_eq_getElem?_getD]
      exact old k hkj
    · have ek : k = j := by omega
      subst ek
      rw [List.getD_eq_getElem?_getD, List.getElem?_append_right (by omega), pl, Nat.sub_self]
      show evAt n env (mPart n (mAll n (rs.take k)).1 r (mAll n (rs.take k)).2).2 (mPart n (mAll n (rs.take k)).1 r (mAll n (rs.take k)).2).1 = _
      rw [evAt_eq h.ok.wf hr]
      cases r with
      | num v => exact mk_ev st1.rows.ok.wf
      | get g => exact mk_ev st1.rows.ok.wf
      | op o a b =>
        obtain ⟨ha, hb⟩ := hin.ahead o a b rfl
        have ab := h.ok.wf _ _ _ _ hr
        show evAt n env (mApply n _ o _ _).2 (mApply n _ o _ _).1 = opI n o _ _
        rw [mApply_ev h1 he inv.rows.ok (hin.at ha) (hin.at hb), ih (by omega) a ab.1, ih (by omega) b ab.2]
theorem mAll_words {n u : Nat} (h1 : 1 ≤ n) {plain : Bool} {rs : List Part} (h : Rows n u plain rs) {env : Int → Int} (he : EnvG n env) {k : Nat} (hk : k < rs.length) : evAt n env (mAll n rs).1 ((mAll n rs).2.getD k 0) = evAt n env rs k := by
  have := mAll_ev h1 h he rs.length (Nat.le_refl _) k hk
  rw [List.take_length] at this
  exact this
theorem gd_mod (m : Nat) (x : Int) : Gd m (x % 2 ^ m) := ⟨Int.emod_nonneg _ (by have := pow_pos' m; omega), Int.emod_lt_of_pos _ (pow_pos' m)⟩
theorem hab_take {ps : List Part} (wf : WF ps) {i : Nat} {ks : List Nat} (hr : ReachL ps i ks) {j k : Nat} {p : Part} (hkj : ks[j]? = some k) (hp : ps[k]? = some p) : ∀ o a b, p = Part.op o a b → a ∈ ks.take j ∧ b ∈ ks.take j := fun o a b e => by
  subst e
  have hkr := (hr.mem k).mp (List.mem_of_getElem? hkj)
  have := wf _ _ _ _ hp
  exact ⟨asc_take hr.asc hkj ((hr.mem a).mpr (.left hkr hp)) this.1, asc_take hr.asc hkj ((hr.mem b).mpr (.right hkr hp)) this.2⟩
theorem env0 (n : Nat) : EnvG n (fun _ => 0) := fun _ => ⟨Int.le_refl _, pow_pos' n⟩
theorem reach_len {ps : List Part} {i : Nat} {ks : List Nat} (wf : WF ps) (hr : ReachL ps i ks) (hi : i < ps.length) : ks.length ≤ ps.length :=
  nodup_lt (hr.asc.imp fun h => Nat.ne_of_lt h) fun k hk => by have := ((hr.mem k).mp hk).le wf; omega
theorem env_of {n : Nat} {ws : List Int} (h : ∀ x ∈ ws, 0 ≤ x ∧ x < 2 ^ n) : EnvG n (envOf ws) := fun g => by
  unfold envOf
  rw [List.getD_eq_getElem?_getD]
  cases e : ws[g.toNat]? with
  | none => exact ⟨Int.le_refl _, pow_pos' n⟩
  | some x => exact h x (List.mem_of_getElem? e)
theorem idxOf_pre {p : Part} : ∀ {st F : List Part}, st <+: F → p ∈ st → F.idxOf p = st.idxOf p
  | [], _, _, h => by simp at h
  | x :: st, F, hp, h => by
    obtain ⟨t, rfl⟩ := hp
    rw [List.cons_append, List.idxOf_cons, List.idxOf_cons]
    by_cases e : x = p
    · subst e; simp
    · have e' : (x == p) = false := by simpa using e
      rw [e', cond_false, cond_false, idxOf_pre (List.prefix_append _ _) ((List.mem_cons.mp h).resolve_left fun z => e z.symm)]
theorem idxOf_last {p : Part} : ∀ {st : List Part}, p ∉ st → (st ++ [p]).idxOf p = st.length
  | [], _ => by simp
  | x :: st, h => by
    have e : ¬ x = p := fun e => h (e ▸ List.mem_cons_self)
    have e' : (x == p) = false := by simpa using e
    rw [List.cons_append, List.idxOf_cons, e', cond_false, idxOf_last fun z => h (List.mem_cons_of_mem _ z)]; rfl
theorem mk_again {st F : List Part} {p : Part} (h : (mk st p).2 <+: F) : mk F p = ((mk st p).1, F) := by
  unfold mk at h ⊢
  by_cases hm : p ∈ st
  · rw [if_pos hm] at h ⊢
    rw [if_pos (h.subset hm), idxOf_pre h hm]
  · rw [if_neg hm] at h ⊢
    have hf : p ∈ F := h.subset (by simp)
    rw [if_pos hf, idxOf_pre h (by simp), idxOf_last hm]
theorem fin_again {st F : List Part} {o : Op} {a b : Nat} {s : Sh} (h : (fin st o a b s).2 <+: F) : fin F o a b s = ((fin st o a b s).1, F) := by
  cases s
  · rfl
  · rfl
  · exact mk_again h
  · exact mk_again h
  · exact mk_again h
theorem wordOf_pre {st F : List Part} (h : st <+: F) {a : Nat} (ha : a < st.length) : wordOf F a = wordOf st a := by
  obtain ⟨t, rfl⟩ := h
  unfold wordOf
  rw [List.getElem?_append_left ha]
theorem mApply_again {m : Nat} {st F : List Part} {o : Op} {a b : Nat} (ha : a < st.length) (hb : b < st.length) (h : (mApply m st o a b).2 <+: F) : mApply m F o a b = ((mApply m st o a b).1, F) := by
  have hp : st <+: F := (mApply_pre m st o a b).trans h
  unfold mApply at h ⊢
  rw [wordOf_pre hp ha, wordOf_pre hp hb]
  cases hx : wordOf st a with
  | none =>
    rw [hx] at h
    simp only at h ⊢
    split at h
    · rename_i c; rw [if_pos c, if_pos c]; exact fin_again h
    · rename_i c; rw [if_neg c, if_neg c]; exact fin_again h
  | some x =>
    cases hy : wordOf st b with
    | none =>
      rw [hx, hy] at h
      simp only at h ⊢
      split at h
      · rename_i c; rw [if_pos c, if_pos c]; exact fin_again h
      · rename_i c; rw [if_neg c, if_neg c]; exact fin_again h
    | some y =>
      rw [hx, hy] at h
      exact mk_again h
/-- a row asked for once more -/
theorem mPart_again {n : Nat} {ps : List Part} {r : Part} {pl : List Nat} (h : RowIn n ps r pl) : mPart n (mPart n ps r pl).2 r pl = ((mPart n ps r pl).1, (mPart n ps r pl).2) := by
  cases r with
  | num v => exact mk_again (List.prefix_refl _)
  | get g => exact mk_again (List.prefix_refl _)
  | op o a b =>
    obtain ⟨ha, hb⟩ := h.ahead o a b rfl
    exact mApply_again (h.at ha) (h.at hb) (List.prefix_refl _)
theorem mPart_pre {n : Nat} {ps : List Part} {r : Part} {pl : List Nat} : ps <+: (mPart n ps r pl).2 := by
  cases r with
  | num v => exact mk_pre _ _
  | get g => exact mk_pre _ _
  | op o a b => exact mApply_pre _ _ _ _ _
theorem mPart_len {n : Nat} {ps : List Part} {r : Part} {pl : List Nat} : (mPart n ps r pl).2.length ≤ ps.length + 1 := by
  cases r with
  | num v => exact mk_len _ _
  | get g => exact mk_len _ _
  | op o a b => exact mApply_len _ _ _ _ _
theorem RowIn.more {n : Nat} {ps qs : List Part} {r : Part} {pl : List Nat} (h : RowIn n ps r pl) (p : ps <+: qs) : RowIn n qs r pl :=
  ⟨h.ahead, fun k hk => Nat.lt_of_lt_of_le (h.there k hk) p.length_le, h.ok⟩
/-! ### parts put in for unknowns -/
def fstepR (n : Nat) (ps : List Part) (pl : List Nat) (st : List Part × List (Nat × Nat)) (k : Nat) : Nat × List Part := match ps[k]? with
  | some (.op o a b) => mApply n st.1 o (look st.2 a) (look st.2 b)
  | some (.get i) => if i < pl.length then (pl.getD i.toNat 0, st.1) else (k, st.1)
  | _ => (k, st.1)
def fstep (n : Nat) (ps : List Part) (pl : List Nat) (st : List Part × List (Nat × Nat)) (k : Nat) : List Part × List (Nat × Nat) := ((fstepR n ps pl st k).2, st.2 ++ [(k, (fstepR n ps pl st k).1)])
def mFill (n : Nat) (ps : List Part) (pl ks : List Nat) : List Part × List (Nat × Nat) := ks.foldl (fstep n ps pl) (ps, [])
theorem mFill_snoc (n : Nat) (ps : List Part) (pl ks : List Nat) (k : Nat) : mFill n ps pl (ks ++ [k]) = fstep n ps pl (mFill n ps pl ks) k := by unfold mFill; rw [List.foldl_append]; rfl
def movE (n : Nat) (env : Int → Int) (ps : List Part) (pl : List Nat) : Int → Int := fun g => if g < pl.length then evAt n env ps (pl.getD g.toNat 0) else env g
theorem movE_gd {n : Nat} (n1 : 1 ≤ n) {env : Int → Int} (he : EnvG n env) {ps : List Part} (ok : Ok n ps) (pl : List Nat) : EnvG n (movE n env ps pl) := fun g => by
  unfold movE; split
  · exact evAt_gd n1 he ok _
  · exact he g
structure FInv (n u : Nat) (ps : List Part) (pl : List Nat) (done : List Nat) (st : List Part × List (Nat × Nat)) : Prop where
  keys : st.2.map (fun (x : Nat × Nat) => x.1) = done
  lt : ∀ x : Nat × Nat, x ∈ st.2 → x.2 < st.1.length
  len : st.1.length ≤ ps.length + done.length
  rows : Rows n u false st.1
  pre : ps <+: st.1
  sem : ∀ env : Int → Int, EnvG n env → ∀ k ∈ done, evAt n env st.1 (look st.2 k) = evAt n (movE n env ps pl) ps k
theorem FInv.look {n u : Nat} {ps : List Part} {pl : List Nat} {done : List Nat} {st : List Part × List (Nat × Nat)} (c : FInv n u ps pl done st) {a : Nat} (h : a ∈ done) : My.look st.2 a < st.1.length :=
  c.lt _ (look_mem (by rw [c.keys]; exact h))
theorem FInv.start {n u : Nat} {ps : List Part} {pl : List Nat} (h : Rows n u false ps) : FInv n u ps pl [] (ps, []) := ⟨rfl, fun _ m => by simp at m, Nat.le_refl _, h, List.prefix_refl _, fun _ _ k h => by simp at h⟩
theorem FInv.step {n u : Nat} (n1 : 1 ≤ n) {ps : List Part} {pl : List Nat} {done : List Nat} {st : List Part × List (Nat × Nat)} {k : Nat} {p : Part} (hr : Rows n u false ps) (hpl : ∀ i ∈ pl, i < ps.length) (c : FInv n u ps pl done st) (hp : ps[k]? = some p) (hnd : k ∉ done)
    (hab : ∀ o a b, p = Part.op o a b → a ∈ done ∧ b ∈ done) : FInv n u ps pl (done ++ [k]) (fstep n ps pl st k) := by
  have hk := (List.getElem?_eq_some_iff.mp hp).1
  have kl := c.pre.length_le
  have key : (fstepR n ps pl st k).1 < (fstepR n ps pl st k).2.length ∧ (fstepR n ps pl st k).2.length ≤ st.1.length + 1 ∧ Rows n u false (fstepR n ps pl st k).2 ∧ st.1 <+: (fstepR n ps pl st k).2 ∧
      ∀ env : Int → Int, EnvG n env → evAt n env (fstepR n ps pl st k).2 (fstepR n ps pl st k).1 = evAt n (movE n env ps pl) ps k := by
    cases p with
    | num v =>
      have er : fstepR n ps pl st k = (k, st.1) := by unfold fstepR; rw [hp]
      rw [er]
      refine ⟨by show k < st.1.length; omega, Nat.le_succ _, c.rows, List.prefix_refl _, fun env he => ?_⟩
      rw [evAt_pre c.pre hk, evAt_eq hr.ok.wf hp, evAt_eq hr.ok.wf hp]
    | get g =>
      by_cases hg : g < pl.length
      · have er : fstepR n ps pl st k = (pl.getD g.toNat 0, st.1) := by unfold fstepR; rw [hp]; exact if_pos hg
        have g0 := (hr.ok.get _ _ hp).1
        have hm : pl.getD g.toNat 0 < ps.length := by
          rw [List.getD_eq_getElem?_getD, List.getElem?_eq_getElem (by omega)]
          exact hpl _ (List.getElem_mem (by omega))
        rw [er]
        refine ⟨by show pl.getD g.toNat 0 < st.1.length; omega, Nat.le_succ _, c.rows, List.prefix_refl _, fun env he => ?_⟩
        rw [evAt_pre c.pre hm, evAt_eq (env := movE n env ps pl) hr.ok.wf hp]
        show _ = movE n env ps pl g
        unfold movE; rw [if_pos hg]
      · have er : fstepR n ps pl st k = (k, st.1) := by unfold fstepR; rw [hp]; exact if_neg hg
        rw [er]
        refine ⟨by show k < st.1.length; omega, Nat.le_succ _, c.rows, List.prefix_refl _, fun env he => ?_⟩
        rw [evAt_pre c.pre hk, evAt_eq hr.ok.wf hp, evAt_eq hr.ok.wf hp]
        show env g = movE n env ps pl g
        unfold movE; rw [if_neg hg]
    | op o a b =>
      obtain ⟨ha, hb⟩ := hab o a b rfl
      have er : fstepR n ps pl st k = mApply n st.1 o (My.look st.2 a) (My.look st.2 b) := by unfold fstepR; rw [hp]
      rw [er]
      refine ⟨mApply_lt (c.look ha) (c.look hb), mApply_len _ _ _ _ _, rows_mApply n1 c.rows (c.look ha) (c.look hb) (fun q => by cases q), mApply_pre _ _ _ _ _, fun env he => ?_⟩
      rw [mApply_ev n1 he c.rows.ok (c.look ha) (c.look hb), c.sem env he a ha, c.sem env he b hb, evAt_eq (env := movE n env ps pl) hr.ok.wf hp]
  have es : (fstep n ps pl st k).2 = st.2 ++ [(k, (fstepR n ps pl st k).1)] := rfl
  have es1 : (fstep n ps pl st k).1 = (fstepR n ps pl st k).2 := rfl
  refine ⟨?_, fun x hx => ?_, ?_, key.2.2.1, c.pre.trans key.2.2.2.1, fun env he z hz => ?_⟩
  · rw [es, List.map_append, c.keys]; rfl
  · rw [es] at hx
    rcases List.mem_append.mp hx with hx | hx
    · have := c.lt x hx
      have := key.2.2.2.1.length_le
      rw [es1]; omega
    · simp at hx; subst hx; exact key.1
  · rw [es1, List.length_append, List.length_singleton]
    have := c.len; have := key.2.1; omega
  · rw [es, es1]
    rcases List.mem_append.mp hz with hz | hz
    · rw [look_snoc_old _ (by rw [c.keys]; exact hz), evAt_pre key.2.2.2.1 (c.look hz)]
      exact c.sem env he z hz
    · simp at hz; subst hz
      rw [look_snoc_new (by rw [c.keys]; exact hnd)]
      exact key.2.2.2.2 env he
theorem fill_inv {n u : Nat} (n1 : 1 ≤ n) {ps : List Part} {pl : List Nat} {i : Nat} {ks : List Nat} (hr : Rows n u false ps) (hpl : ∀ i ∈ pl, i < ps.length) (hk : ReachL ps i ks) (hi : i < ps.length) : ∀ j, FInv n u ps pl (ks.take j) (mFill n ps pl (ks.take j)) := by
  intro j
  induction j with
  | zero => rw [List.take_zero]; exact FInv.start hr
  | succ j ih =>
    by_cases hj : j < ks.length
    · obtain ⟨k, e⟩ : ∃ k, ks[j]? = some k := ⟨_, List.getElem?_eq_getElem hj⟩
      have hkl : k < ps.length := by have := ((hk.mem k).mp (List.mem_of_getElem? e)).le hr.ok.wf; omega
      obtain ⟨p, hp⟩ : ∃ p, ps[k]? = some p := ⟨_, List.getElem?_eq_getElem hkl⟩
      rw [take_snoc e, mFill_snoc]
      exact ih.step n1 hr hpl hp (not_in_take hk.asc e) (hab_take hr.ok.wf hk e hp)
    · rw [List.take_of_length_le (by omega)]
      rw [List.take_of_length_le (by omega)] at ih
      exact ih
/-- words depend on the unknowns there are alone -/
theorem evs_congr {n : Nat} {e1 e2 : Int → Int} : ∀ ps : List Part, (∀ (k : Nat) (g : Int), ps[k]? = some (Part.get g) → e1 g = e2 g) → evs n e1 ps = evs n e2 ps := by
  refine snoc_ind (C := fun ps => (∀ (k : Nat) (g : Int), ps[k]? = some (Part.get g) → e1 g = e2 g) → evs n e1 ps = evs n e2 ps) (fun _ => rfl) (fun l x ih h => ?_)
  have ih := ih fun k g e => h k g (by rw [List.getElem?_append_left (List.getElem?_eq_some_iff.mp e).1]; exact e)
  rw [evs_snoc, evs_snoc, ih]
  cases x with
  | num v => rfl
  | op o a b => rfl
  | get g =>
    have := h l.length g (by rw [List.getElem?_append_right (Nat.le_refl _), Nat.sub_self]; rfl)
    show _ ++ [e1 g] = _ ++ [e2 g]
    rw [this]
theorem evAt_congr {n : Nat} {e1 e2 : Int → Int} {ps : List Part} (h : ∀ (k : Nat) (g : Int), ps[k]? = some (Part.get g) → e1 g = e2 g) (k : Nat) : evAt n e1 ps k = evAt n e2 ps k := by
  unfold evAt; rw [evs_congr ps h]
end My

/-! R6S -/
namespace My
open PySem L2
/-! ### marks, from the back, for several -/
structure MInvS (ps : List Part) (S : List Nat) (m : List Bool) (done : Nat) : Prop where
  len : m.length = ps.length
  rch : ∀ k, m[k]? = some true → ReachS ps S k
  root : ∀ i ∈ S, m[i]? = some true
  clo : ∀ k o a b, ps.length ≤ k + done → m[k]? = some true → ps[k]? = some (Part.op o a b) → m[a]? = some true ∧ m[b]? = some true
def marks (N : Nat) (S : List Nat) : List Bool := S.foldl (fun m i => m.set i true) (List.replicate N false)
theorem marks_snoc (N : Nat) (S : List Nat) (i : Nat) : marks N (S ++ [i]) = (marks N S).set i true := by unfold marks; rw [List.foldl_append]; rfl
theorem marks_len (N : Nat) (S : List Nat) : (marks N S).length = N := by
  refine snoc_ind (C := fun S => (marks N S).length = N) (by simp [marks]) (fun l x h => ?_) S
  rw [marks_snoc, List.length_set]; exact h
theorem marks_iff (N : Nat) : ∀ S : List Nat, ∀ k, (marks N S)[k]? = some true → k ∈ S := by
  refine snoc_ind (C := fun S => ∀ k, (marks N S)[k]? = some true → k ∈ S) (fun k h => ?_) (fun l x ih k h => ?_)
  · unfold marks at h
    simp only [List.foldl_nil, List.getElem?_replicate] at h
    split at h <;> cases h
  · rw [marks_snoc] at h
    rcases set_mark h with rfl | h
    · simp
    · exact List.mem_append_left _ (ih k h)
theorem marks_all (N : Nat) : ∀ S : List Nat, (∀ i ∈ S, i < N) → ∀ i ∈ S, (marks N S)[i]? = some true := by
  refine snoc_ind (C := fun S => (∀ i ∈ S, i < N) → ∀ i ∈ S, (marks N S)[i]? = some true) (fun _ i h => by simp at h) (fun l x ih h i hi => ?_)
  rw [marks_snoc]
  rcases List.mem_append.mp hi with hi | hi
  · exact set_mono (ih (fun j hj => h j (List.mem_append_left _ hj)) i hi)
  · simp at hi; subst hi
    exact set_self (by rw [marks_len]; exact h i (by simp))
theorem MInvS.start {ps : List Part} {S : List Nat} (hS : ∀ i ∈ S, i < ps.length) : MInvS ps S (marks ps.length S) 0 :=
  ⟨marks_len _ _, fun k h => .self (marks_iff _ _ k h), marks_all _ _ hS, fun k o a b hk h e => by have := (List.getElem?_eq_some_iff.mp e).1; omega⟩
theorem MInvS.skip {ps : List Part} {S : List Nat} {at_ done : Nat} {m : List Bool} (h : MInvS ps S m done) (e : at_ + done + 1 = ps.length) (no : m[at_]? = some true → ∀ o a b, ps[at_]? ≠ some (Part.op o a b)) : MInvS ps S m (done + 1) :=
  ⟨h.len, h.rch, h.root, fun k o a b hk hm hp => by
    by_cases ek : k = at_
    · subst ek; exact absurd hp (no hm o a b)
    · exact h.clo k o a b (by omega) hm hp⟩
theorem MInvS.mark {ps : List Part} {S : List Nat} {at_ done : Nat} {m : List Bool} {o : Op} {a b : Nat} (h : MInvS ps S m done) (wf : WF ps) (e : at_ + done + 1 = ps.length) (hm : m[at_]? = some true) (hp : ps[at_]? = some (Part.op o a b)) : MInvS ps S ((m.set a true).set b true) (done + 1) := by
  have ab := wf _ _ _ _ hp
  have hr := h.rch _ hm
  refine ⟨by simp [h.len], fun k hk => ?_, fun i hi => set_mono (set_mono (h.root i hi)), fun k o' a' b' hk hm' hp' => ?_⟩
  · rcases set_mark hk with rfl | hk
    · exact .right hr hp
    · rcases set_mark hk with rfl | hk
      · exact .left hr hp
      · exact h.rch _ hk
  · by_cases ek : k = at_
    · subst ek
      rw [hp] at hp'
      cases hp'
      exact ⟨set_mono (set_self (by rw [h.len]; omega)), set_self (by rw [List.length_set, h.len]; omega)⟩
    · have hk2 : m[k]? = some true := by
        rcases set_mark hm' with rfl | hm'
        · omega
        · rcases set_mark hm' with rfl | hm'
          · omega
          · exact hm'
      have := h.clo k o' a' b' (by omega) hk2 hp'
      exact ⟨set_mono (set_mono this.1), set_mono (set_mono this.2)⟩
theorem MInvS.done {ps : List Part} {S : List Nat} {m : List Bool} (h : MInvS ps S m ps.length) (wf : WF ps) (hS : ∀ i ∈ S, i < ps.length) : ReachLS ps S (markL m ps.length) := by
  refine ⟨List.Pairwise.filter _ List.pairwise_lt_range, fun k => ?_⟩
  have back : ReachS ps S k → m[k]? = some true := by
    rintro ⟨i, hi, r⟩
    induction r with
    | self => exact h.root _ hi
    | left r e ih => exact (h.clo _ _ _ _ (by omega) ih e).1
    | right r e ih => exact (h.clo _ _ _ _ (by omega) ih e).2
  unfold markL
  rw [List.mem_filter, List.mem_range]
  exact ⟨fun z => h.rch k (of_decide_eq_true z.2), fun r => ⟨r.lt wf hS, decide_eq_true (back r)⟩⟩
end My

/-! A -/
namespace My
open PySem L2
/-! ### the text by places -/
def top (i : Nat) : Stmt := PySem.Challenge.pw_selfwritten_k01_parts_once_and_their_wor.main.body.getD i (.Pass ⟨0, 0, 0, 0⟩)
abbrev s_TooMany_init : Stmt := inClass (top 7) 0
abbrev s_op_word : Stmt := top 11
abbrev s_shortened : Stmt := top 12
abbrev s_shortened_and : Stmt := top 13
abbrev s_shortened_twice : Stmt := top 14
abbrev s_is_int : Stmt := top 16
abbrev s_is_row : Stmt := top 17
abbrev s_check_int : Stmt := top 18
abbrev s_ones : Stmt := top 19
abbrev s_put_in : Stmt := top 25
abbrev s_p_init : Stmt := inClass (top 23) 0
abbrev s_p_len : Stmt := inClass (top 23) 1
abbrev s_p_iter : Stmt := inClass (top 23) 2
abbrev s_p_check_part : Stmt := inClass (top 23) 4
abbrev s_p_check_parts : Stmt := inClass (top 23) 5
abbrev s_p_num : Stmt := inClass (top 23) 6
abbrev s_p_unknown : Stmt := inClass (top 23) 7
abbrev s_p_apply : Stmt := inClass (top 23) 8
abbrev s_p_part : Stmt := inClass (top 23) 9
abbrev s_p_value : Stmt := inClass (top 23) 10
abbrev s_p_reached : Stmt := inClass (top 23) 11
abbrev s_p_reached_by : Stmt := inClass (top 23) 12
abbrev s_p_unknowns : Stmt := inClass (top 23) 13
abbrev s_p_made : Stmt := inClass (top 23) 16
abbrev s_p_word : Stmt := inClass (top 23) 17
abbrev s_p_gets : Stmt := inClass (top 23) 18
abbrev s_law_draws : Stmt := top 27
abbrev s_law_take : Stmt := top 28
abbrev s_law_word : Stmt := top 29
abbrev s_law_is_int : Stmt := top 30
abbrev s_law_op : Stmt := top 31
abbrev s_law_ops : Stmt := top 32
abbrev s_law_term_rows : Stmt := top 33
abbrev s_law_row_words : Stmt := top 34
abbrev s_law_keep : Stmt := top 35
abbrev s_law_short : Stmt := top 36
abbrev s_law_apply : Stmt := top 37
abbrev s_law_part : Stmt := top 38
abbrev s_law_asked : Stmt := top 39
abbrev s_law_reach : Stmt := top 40
abbrev s_law_gets : Stmt := top 41
abbrev s_law_edge_rows : Stmt := top 42
abbrev s_law_all_made : Stmt := top 43
abbrev s_law_told_parts : Stmt := top 44
abbrev s_law_right_words : Stmt := top 45
abbrev s_law_made_of : Stmt := top 46
abbrev s_law_put_in_told : Stmt := top 47
abbrev s_law_filled : Stmt := top 48
abbrev s_law_refused : Stmt := top 49
abbrev s_law_full : Stmt := top 50
abbrev s_law : Stmt := top 51
theorem sc_TooMany_init : FnScope ["self", "name"] ["self", "name"] (defScope s_TooMany_init) := ⟨rfl, rfl, rfl, by decide +kernel, rfl, by decide +kernel, by decide +kernel⟩
theorem sc_op_word : FnScope ["name", "one", "other", "width"] ["name", "one", "other", "width"] (defScope s_op_word) := ⟨rfl, rfl, rfl, by decide +kernel, rfl, by decide +kernel, by decide +kernel⟩
theorem sc_shortened : FnScope ["name", "first", "second", "equal", "most"] ["name", "first", "second", "equal", "most"] (defScope s_shortened) := ⟨rfl, rfl, rfl, by decide +kernel, rfl, by decide +kernel, by decide +kernel⟩
theorem sc_shortened_and : FnScope ["first", "second", "equal", "most"] ["first", "second", "equal", "most"] (defScope s_shortened_and) := ⟨rfl, rfl, rfl, by decide +kernel, rfl, by decide +kernel, by decide +kernel⟩
theorem sc_shortened_twice : FnScope ["name"] ["name"] (defScope s_shortened_twice) := ⟨rfl, rfl, rfl, by decide +kernel, rfl, by decide +kernel, by decide +kernel⟩
theorem sc_is_int : FnScope ["value"] ["value"] (defScope s_is_int) := ⟨rfl, rfl, rfl, by decide +kernel, rfl, by decide +kernel, by decide +kernel⟩
theorem sc_is_row : FnScope ["value"] ["value"] (defScope s_is_row) := ⟨rfl, rfl, rfl, by decide +kernel, rfl, by decide +kernel, by decide +kernel⟩
theorem sc_check_int : FnScope ["value", "low", "high", "name"] ["value", "low", "high", "name"] (defScope s_check_int) := ⟨rfl, rfl, rfl, by decide +kernel, rfl, by decide +kernel, by decide +kernel⟩
theorem sc_ones : FnScope ["width"] ["width"] (defScope s_ones) := ⟨rfl, rfl, rfl, by decide +kernel, rfl, by decide +kernel, by decide +kernel⟩
theorem sc_put_in : FnScope ["pool", "part", "parts", "numbers", "places", "made", "number", "row"] ["pool", "part", "parts"] (defScope s_put_in) := ⟨rfl, rfl, rfl, by decide +kernel, rfl, by decide +kernel, by decide +kernel⟩
theorem sc_p_init : FnScope ["self", "width"] ["self", "width"] (defScope s_p_init) := ⟨rfl, rfl, rfl, by decide +kernel, rfl, by decide +kernel, by decide +kernel⟩
theorem sc_p_len : FnScope ["self"] ["self"] (defScope s_p_len) := ⟨rfl, rfl, rfl, by decide +kernel, rfl, by decide +kernel, by decide +kernel⟩
theorem sc_p_iter : FnScope ["self"] ["self"] (defScope s_p_iter) := ⟨rfl, rfl, rfl, by decide +kernel, rfl, by decide +kernel, by decide +kernel⟩
theorem sc_p_check_part : FnScope ["self", "number"] ["self", "number"] (defScope s_p_check_part) := ⟨rfl, rfl, rfl, by decide +kernel, rfl, by decide +kernel, by decide +kernel⟩
theorem sc_p_check_parts : FnScope ["self", "numbers", "number"] ["self", "numbers"] (defScope s_p_check_parts) := ⟨rfl, rfl, rfl, by decide +kernel, rfl, by decide +kernel, by decide +kernel⟩
theorem sc_p_num : FnScope ["self", "value"] ["self", "value"] (defScope s_p_num) := ⟨rfl, rfl, rfl, by decide +kernel, rfl, by decide +kernel, by decide +kernel⟩
theorem sc_p_unknown : FnScope ["self", "number"] ["self", "number"] (defScope s_p_unknown) := ⟨rfl, rfl, rfl, by decide +kernel, rfl, by decide +kernel, by decide +kernel⟩
theorem sc_p_apply : FnScope ["self", "name", "one", "other", "first", "second", "short"] ["self", "name", "one", "other"] (defScope s_p_apply) := ⟨rfl, rfl, rfl, by decide +kernel, rfl, by decide +kernel, by decide +kernel⟩
theorem sc_p_part : FnScope ["self", "number"] ["self", "number"] (defScope s_p_part) := ⟨rfl, rfl, rfl, by decide +kernel, rfl, by decide +kernel, by decide +kernel⟩
theorem sc_p_value : FnScope ["self", "number", "words", "numbers", "i", "found", "at", "part"] ["self", "number", "words"] (defScope s_p_value) := ⟨rfl, rfl, rfl, by decide +kernel, rfl, by decide +kernel, by decide +kernel⟩
theorem sc_p_reached : FnScope ["self", "number"] ["self", "number"] (defScope s_p_reached) := ⟨rfl, rfl, rfl, by decide +kernel, rfl, by decide +kernel, by decide +kernel⟩
theorem sc_p_reached_by : FnScope ["self", "numbers", "found", "waiting", "part", "operand", "number"] ["self", "numbers"] (defScope s_p_reached_by) := ⟨rfl, rfl, rfl, by decide +kernel, rfl, by decide +kernel, by decide +kernel⟩
theorem sc_p_unknowns : FnScope ["self", "numbers"] ["self", "numbers"] (defScope s_p_unknowns) := ⟨rfl, rfl, rfl, by decide +kernel, rfl, by decide +kernel, by decide +kernel⟩
theorem sc_p_made : FnScope ["self", "part"] ["self", "part"] (defScope s_p_made) := ⟨rfl, rfl, rfl, by decide +kernel, rfl, by decide +kernel, by decide +kernel⟩
theorem sc_p_word : FnScope ["self", "number", "part"] ["self", "number"] (defScope s_p_word) := ⟨rfl, rfl, rfl, by decide +kernel, rfl, by decide +kernel, by decide +kernel⟩
theorem sc_p_gets : FnScope ["self", "numbers", "parts", "number", "part"] ["self", "numbers"] (defScope s_p_gets) := ⟨rfl, rfl, rfl, by decide +kernel, rfl, by decide +kernel, by decide +kernel⟩
theorem sc_law_draws : FnScope ["_law_script", "_law_numbers", "_law_at", "_law_cell", "_law_sign", "_law_turn", "_law_mixed"] ["_law_script"] (defScope s_law_draws) := ⟨rfl, rfl, rfl, by decide +kernel, rfl, by decide +kernel, by decide +kernel⟩
theorem sc_law_take : FnScope ["_law_draws_here", "_law_many", "_law_at"] ["_law_draws_here", "_law_many"] (defScope s_law_take) := ⟨rfl, rfl, rfl, by decide +kernel, rfl, by decide +kernel, by decide +kernel⟩
theorem sc_law_word : FnScope ["_law_draws_here", "_law_width", "_law_high", "_law_low", "_law_special"] ["_law_draws_here", "_law_width"] (defScope s_law_word) := ⟨rfl, rfl, rfl, by decide +kernel, rfl, by decide +kernel, by decide +kernel⟩
theorem sc_law_is_int : FnScope ["_law_thing"] ["_law_thing"] (defScope s_law_is_int) := ⟨rfl, rfl, rfl, by decide +kernel, rfl, by decide +kernel, by decide +kernel⟩
theorem sc_law_op : FnScope ["_law_name", "_law_one", "_law_other", "_law_width"] ["_law_name", "_law_one", "_law_other", "_law_width"] (defScope s_law_op) := ⟨rfl, rfl, rfl, by decide +kernel, rfl, by decide +kernel, by decide +kernel⟩
theorem sc_law_ops : FnScope [] [] (defScope s_law_ops) := ⟨rfl, rfl, rfl, by decide +kernel, rfl, by decide +kernel, by decide +kernel⟩
theorem sc_law_term_rows : FnScope ["_law_draws_here", "_law_unknowns", "_law_width", "_law_many", "_law_plain", "_law_rows", "_law_i", "_law_turn", "_law_names", "_law_name", "_law_one", "_law_other"] ["_law_draws_here", "_law_unknowns", "_law_width", "_law_many", "_law_plain"] (defScope s_law_term_rows) := ⟨rfl, rfl, rfl, by decide +kernel, rfl, by decide +kernel, by decide +kernel⟩
theorem sc_law_row_words : FnScope ["_law_rows", "_law_words", "_law_width", "_law_found", "_law_row"] ["_law_rows", "_law_words", "_law_width"] (defScope s_law_row_words) := ⟨rfl, rfl, rfl, by decide +kernel, rfl, by decide +kernel, by decide +kernel⟩
theorem sc_law_keep : FnScope ["_law_parts", "_law_part_here", "_law_at"] ["_law_parts", "_law_part_here"] (defScope s_law_keep) := ⟨rfl, rfl, rfl, by decide +kernel, rfl, by decide +kernel, by decide +kernel⟩
theorem sc_law_short : FnScope ["_law_parts", "_law_width", "_law_name", "_law_one", "_law_other", "_law_zero"] ["_law_parts", "_law_width", "_law_name", "_law_one", "_law_other"] (defScope s_law_short) := ⟨rfl, rfl, rfl, by decide +kernel, rfl, by decide +kernel, by decide +kernel⟩
theorem sc_law_apply : FnScope ["_law_parts", "_law_width", "_law_name", "_law_one", "_law_other", "_law_found"] ["_law_parts", "_law_width", "_law_name", "_law_one", "_law_other"] (defScope s_law_apply) := ⟨rfl, rfl, rfl, by decide +kernel, rfl, by decide +kernel, by decide +kernel⟩
theorem sc_law_part : FnScope ["_law_parts", "_law_width", "_law_row", "_law_places"] ["_law_parts", "_law_width", "_law_row", "_law_places"] (defScope s_law_part) := ⟨rfl, rfl, rfl, by decide +kernel, rfl, by decide +kernel, by decide +kernel⟩
theorem sc_law_asked : FnScope ["_law_pool", "_law_row", "_law_places"] ["_law_pool", "_law_row", "_law_places"] (defScope s_law_asked) := ⟨rfl, rfl, rfl, by decide +kernel, rfl, by decide +kernel, by decide +kernel⟩
theorem sc_law_reach : FnScope ["_law_parts", "_law_numbers", "_law_marks", "_law_number", "_law_back", "_law_at", "_law_part_here"] ["_law_parts", "_law_numbers"] (defScope s_law_reach) := ⟨rfl, rfl, rfl, by decide +kernel, rfl, by decide +kernel, by decide +kernel⟩
theorem sc_law_gets : FnScope ["_law_parts", "_law_numbers", "_law_at"] ["_law_parts", "_law_numbers"] (defScope s_law_gets) := ⟨rfl, rfl, rfl, by decide +kernel, rfl, by decide +kernel, by decide +kernel⟩
theorem sc_law_edge_rows : FnScope ["_law_draws_here", "_law_rows", "_law_width", "_law_at", "_law_zero", "_law_name"] ["_law_draws_here", "_law_rows", "_law_width"] (defScope s_law_edge_rows) := ⟨rfl, rfl, rfl, by decide +kernel, rfl, by decide +kernel, by decide +kernel⟩
theorem sc_law_all_made : FnScope ["_law_pool", "_law_twin", "_law_parts", "_law_width", "_law_rows", "_law_places", "_law_row", "_law_before", "_law_due", "_law_told"] ["_law_pool", "_law_twin", "_law_parts", "_law_width", "_law_rows"] (defScope s_law_all_made) := ⟨rfl, rfl, rfl, by decide +kernel, rfl, by decide +kernel, by decide +kernel⟩
theorem sc_law_told_parts : FnScope ["_law_pool", "_law_parts", "_law_at"] ["_law_pool", "_law_parts"] (defScope s_law_told_parts) := ⟨rfl, rfl, rfl, by decide +kernel, rfl, by decide +kernel, by decide +kernel⟩
theorem sc_law_right_words : FnScope ["_law_draws_here", "_law_pool", "_law_rows", "_law_places", "_law_unknowns", "_law_width", "_law_words", "_law_i", "_law_kept", "_law_due", "_law_at", "_law_told"] ["_law_draws_here", "_law_pool", "_law_rows", "_law_places", "_law_unknowns", "_law_width"] (defScope s_law_right_words) := ⟨rfl, rfl, rfl, by decide +kernel, rfl, by decide +kernel, by decide +kernel⟩
theorem sc_law_made_of : FnScope ["_law_draws_here", "_law_pool", "_law_parts", "_law_one", "_law_other", "_law_numbers"] ["_law_draws_here", "_law_pool", "_law_parts"] (defScope s_law_made_of) := ⟨rfl, rfl, rfl, by decide +kernel, rfl, by decide +kernel, by decide +kernel⟩
theorem sc_law_put_in_told : FnScope ["_law_pool", "_law_part_here", "_law_new", "_law_told"] ["_law_pool", "_law_part_here", "_law_new"] (defScope s_law_put_in_told) := ⟨rfl, rfl, rfl, by decide +kernel, rfl, by decide +kernel, by decide +kernel⟩
theorem sc_law_filled : FnScope ["_law_draws_here", "_law_pool", "_law_parts", "_law_rows", "_law_places", "_law_unknowns", "_law_width", "_law_words", "_law_picked", "_law_turn", "_law_new", "_law_kept", "_law_at", "_law_turned", "_law_number", "_law_part_here", "_law_told", "_law_due", "_law_moved", "_law_i", "_law_bad"] ["_law_draws_here", "_law_pool", "_law_parts", "_law_rows", "_law_places", "_law_unknowns", "_law_width"] (defScope s_law_filled) := ⟨rfl, rfl, rfl, by decide +kernel, rfl, by decide +kernel, by decide +kernel⟩
theorem sc_law_refused : FnScope ["_law_pool", "_law_door", "_law_told", "e"] ["_law_pool", "_law_door"] (defScope s_law_refused) := ⟨rfl, rfl, rfl, by decide +kernel, rfl, by decide +kernel, by decide +kernel⟩
theorem sc_law_full : FnScope ["_law_pool", "_law_v", "_law_door"] [] (defScope s_law_full) := ⟨rfl, rfl, rfl, by decide +kernel, rfl, by decide +kernel, by decide +kernel⟩
theorem sc_law : FnScope ["_law_script", "_law_draws_here", "_law_width", "_law_unknowns", "_law_rows", "_law_i", "_law_pool", "_law_twin", "_law_parts", "_law_places", "_law_turn"] ["_law_script"] (defScope s_law) := ⟨rfl, rfl, rfl, by decide +kernel, rfl, by decide +kernel, by decide +kernel⟩
structure Txt (K : PySem.W.Frag) (mg : Str → Option Value) where
  f_TooMany_init : Addr
  fd_TooMany_init : FuncData
  F_TooMany_init : Fun K "__init__" "TooMany.__init__" s_TooMany_init f_TooMany_init fd_TooMany_init
  b_TooMany_init : Binds K fd_TooMany_init ["self", "name"] []
  f_op_word : Addr
  fd_op_word : FuncData
  F_op_word : Fun K "op_word" "op_word" s_op_word f_op_word fd_op_word
  b_op_word : Binds K fd_op_word ["name", "one", "other", "width"] []
  g_op_word : mg "op_word" = some (.ref f_op_word)
  f_shortened : Addr
  fd_shortened : FuncData
  F_shortened : Fun K "shortened" "shortened" s_shortened f_shortened fd_shortened
  b_shortened : Binds K fd_shortened ["name", "first", "second", "equal", "most"] []
  g_shortened : mg "shortened" = some (.ref f_shortened)
  f_shortened_and : Addr
  fd_shortened_and : FuncData
  F_shortened_and : Fun K "shortened_and" "shortened_and" s_shortened_and f_shortened_and fd_shortened_and
  b_shortened_and : Binds K fd_shortened_and ["first", "second", "equal", "most"] []
  g_shortened_and : mg "shortened_and" = some (.ref f_shortened_and)
  f_shortened_twice : Addr
  fd_shortened_twice : FuncData
  F_shortened_twice : Fun K "shortened_twice" "shortened_twice" s_shortened_twice f_shortened_twice fd_shortened_twice
  b_shortened_twice : Binds K fd_shortened_twice ["name"] []
  g_shortened_twice : mg "shortened_twice" = some (.ref f_shortened_twice)
  f_is_int : Addr
  fd_is_int : FuncData
  F_is_int : Fun K "is_int" "is_int" s_is_int f_is_int fd_is_int
  b_is_int : Binds K fd_is_int ["value"] []
  g_is_int : mg "is_int" = some (.ref f_is_int)
  f_is_row : Addr
  fd_is_row : FuncData
  F_is_row : Fun K "is_row" "is_row" s_is_row f_is_row fd_is_row
  b_is_row : Binds K fd_is_row ["value"] []
  g_is_row : mg "is_row" = some (.ref f_is_row)
  f_check_int : Addr
  fd_check_int : FuncData
  F_check_int : Fun K "check_int" "check_int" s_check_int f_check_int fd_check_int
  b_check_int : Binds K fd_check_int ["value", "low", "high", "name"] []
  g_check_int : mg "check_int" = some (.ref f_check_int)
  f_ones : Addr
  fd_ones : FuncData
  F_ones : Fun K "ones" "ones" s_ones f_ones fd_ones
  b_ones : Binds K fd_ones ["width"] []
  g_ones : mg "ones" = some (.ref f_ones)
  f_put_in : Addr
  fd_put_in : FuncData
  F_put_in : Fun K "put_in" "put_in" s_put_in f_put_in fd_put_in
  b_put_in : Binds K fd_put_in ["pool", "part", "parts"] []
  g_put_in : mg "put_in" = some (.ref f_put_in)
  f_p_init : Addr
  fd_p_init : FuncData
  F_p_init : Fun K "__init__" "Pool.__init__" s_p_init f_p_init fd_p_init
  b_p_init : Binds K fd_p_init ["self", "width"] []
  f_p_len : Addr
  fd_p_len : FuncData
  F_p_len : Fun K "__len__" "Pool.__len__" s_p_len f_p_len fd_p_len
  b_p_len : Binds K fd_p_len ["self"] []
  f_p_iter : Addr
  fd_p_iter : FuncData
  F_p_iter : Fun K "__iter__" "Pool.__iter__" s_p_iter f_p_iter fd_p_iter
  b_p_iter : Binds K fd_p_iter ["self"] []
  f_p_check_part : Addr
  fd_p_check_part : FuncData
  F_p_check_part : Fun K "check_part" "Pool.check_part" s_p_check_part f_p_check_part fd_p_check_part
  b_p_check_part : Binds K fd_p_check_part ["self", "number"] []
  f_p_check_parts : Addr
  fd_p_check_parts : FuncData
  F_p_check_parts : Fun K "check_parts" "Pool.check_parts" s_p_check_parts f_p_check_parts fd_p_check_parts
  b_p_check_parts : Binds K fd_p_check_parts ["self", "numbers"] []
  f_p_num : Addr
  fd_p_num : FuncData
  F_p_num : Fun K "num" "Pool.num" s_p_num f_p_num fd_p_num
  b_p_num : Binds K fd_p_num ["self", "value"] []
  f_p_unknown : Addr
  fd_p_unknown : FuncData
  F_p_unknown : Fun K "unknown" "Pool.unknown" s_p_unknown f_p_unknown fd_p_unknown
  b_p_unknown : Binds K fd_p_unknown ["self", "number"] []
  f_p_apply : Addr
  fd_p_apply : FuncData
  F_p_apply : Fun K "apply" "Pool.apply" s_p_apply f_p_apply fd_p_apply
  b_p_apply : Binds K fd_p_apply ["self", "name", "one", "other"] []
  f_p_part : Addr
  fd_p_part : FuncData
  F_p_part : Fun K "part" "Pool.part" s_p_part f_p_part fd_p_part
  b_p_part : Binds K fd_p_part ["self", "number"] []
  f_p_value : Addr
  fd_p_value : FuncData
  F_p_value : Fun K "value" "Pool.value" s_p_value f_p_value fd_p_value
  b_p_value : Binds K fd_p_value ["self", "number", "words"] []
  f_p_reached : Addr
  fd_p_reached : FuncData
  F_p_reached : Fun K "reached" "Pool.reached" s_p_reached f_p_reached fd_p_reached
  b_p_reached : Binds K fd_p_reached ["self", "number"] []
  f_p_reached_by : Addr
  fd_p_reached_by : FuncData
  F_p_reached_by : Fun K "reached_by" "Pool.reached_by" s_p_reached_by f_p_reached_by fd_p_reached_by
  b_p_reached_by : Binds K fd_p_reached_by ["self", "numbers"] []
  f_p_unknowns : Addr
  fd_p_unknowns : FuncData
  F_p_unknowns : Fun K "unknowns" "Pool.unknowns" s_p_unknowns f_p_unknowns fd_p_unknowns
  b_p_unknowns : Binds K fd_p_unknowns ["self", "numbers"] []
  f_p_made : Addr
  fd_p_made : FuncData
  F_p_made : Fun K "_made" "Pool._made" s_p_made f_p_made fd_p_made
  b_p_made : Binds K fd_p_made ["self", "part"] []
  f_p_word : Addr
  fd_p_word : FuncData
  F_p_word : Fun K "_word" "Pool._word" s_p_word f_p_word fd_p_word
  b_p_word : Binds K fd_p_word ["self", "number"] []
  f_p_gets : Addr
  fd_p_gets : FuncData
  F_p_gets : Fun K "_gets" "Pool._gets" s_p_gets f_p_gets fd_p_gets
  b_p_gets : Binds K fd_p_gets ["self", "numbers"] []
  f_law_draws : Addr
  fd_law_draws : FuncData
  F_law_draws : Fun K "_law_draws" "_law_draws" s_law_draws f_law_draws fd_law_draws
  b_law_draws : Binds K fd_law_draws ["_law_script"] []
  g_law_draws : mg "_law_draws" = some (.ref f_law_draws)
  f_law_take : Addr
  fd_law_take : FuncData
  F_law_take : Fun K "_law_take" "_law_take" s_law_take f_law_take fd_law_take
  b_law_take : Binds K fd_law_take ["_law_draws_here", "_law_many"] []
  g_law_take : mg "_law_take" = some (.ref f_law_take)
  f_law_word : Addr
  fd_law_word : FuncData
  F_law_word : Fun K "_law_word" "_law_word" s_law_word f_law_word fd_law_word
  b_law_word : Binds K fd_law_word ["_law_draws_here", "_law_width"] []
  g_law_word : mg "_law_word" = some (.ref f_law_word)
  f_law_is_int : Addr
  fd_law_is_int : FuncData
  F_law_is_int : Fun K "_law_is_int" "_law_is_int" s_law_is_int f_law_is_int fd_law_is_int
  b_law_is_int : Binds K fd_law_is_int ["_law_thing"] []
  g_law_is_int : mg "_law_is_int" = some (.ref f_law_is_int)
  f_law_op : Addr
  fd_law_op : FuncData
  F_law_op : Fun K "_law_op" "_law_op" s_law_op f_law_op fd_law_op
  b_law_op : Binds K fd_law_op ["_law_name", "_law_one", "_law_other", "_law_width"] []
  g_law_op : mg "_law_op" = some (.ref f_law_op)
  f_law_ops : Addr
  fd_law_ops : FuncData
  F_law_ops : Fun K "_law_ops" "_law_ops" s_law_ops f_law_ops fd_law_ops
  b_law_ops : Binds K fd_law_ops [] []
  g_law_ops : mg "_law_ops" = some (.ref f_law_ops)
  f_law_term_rows : Addr
  fd_law_term_rows : FuncData
  F_law_term_rows : Fun K "_law_term_rows" "_law_term_rows" s_law_term_rows f_law_term_rows fd_law_term_rows
  b_law_term_rows : Binds K fd_law_term_rows ["_law_draws_here", "_law_unknowns", "_law_width", "_law_many", "_law_plain"] []
  g_law_term_rows : mg "_law_term_rows" = some (.ref f_law_term_rows)
  f_law_row_words : Addr
  fd_law_row_words : FuncData
  F_law_row_words : Fun K "_law_row_words" "_law_row_words" s_law_row_words f_law_row_words fd_law_row_words
  b_law_row_words : Binds K fd_law_row_words ["_law_rows", "_law_words", "_law_width"] []
  g_law_row_words : mg "_law_row_words" = some (.ref f_law_row_words)
  f_law_keep : Addr
  fd_law_keep : FuncData
  F_law_keep : Fun K "_law_keep" "_law_keep" s_law_keep f_law_keep fd_law_keep
  b_law_keep : Binds K fd_law_keep ["_law_parts", "_law_part_here"] []
  g_law_keep : mg "_law_keep" = some (.ref f_law_keep)
  f_law_short : Addr
  fd_law_short : FuncData
  F_law_short : Fun K "_law_short" "_law_short" s_law_short f_law_short fd_law_short
  b_law_short : Binds K fd_law_short ["_law_parts", "_law_width", "_law_name", "_law_one", "_law_other"] []
  g_law_short : mg "_law_short" = some (.ref f_law_short)
  f_law_apply : Addr
  fd_law_apply : FuncData
  F_law_apply : Fun K "_law_apply" "_law_apply" s_law_apply f_law_apply fd_law_apply
  b_law_apply : Binds K fd_law_apply ["_law_parts", "_law_width", "_law_name", "_law_one", "_law_other"] []
  g_law_apply : mg "_law_apply" = some (.ref f_law_apply)
  f_law_part : Addr
  fd_law_part : FuncData
  F_law_part : Fun K "_law_part" "_law_part" s_law_part f_law_part fd_law_part
  b_law_part : Binds K fd_law_part ["_law_parts", "_law_width", "_law_row", "_law_places"] []
  g_law_part : mg "_law_part" = some (.ref f_law_part)
  f_law_asked : Addr
  fd_law_asked : FuncData
  F_law_asked : Fun K "_law_asked" "_law_asked" s_law_asked f_law_asked fd_law_asked
  b_law_asked : Binds K fd_law_asked ["_law_pool", "_law_row", "_law_places"] []
  g_law_asked : mg "_law_asked" = some (.ref f_law_asked)
  f_law_reach : Addr
  fd_law_reach : FuncData
  F_law_reach : Fun K "_law_reach" "_law_reach" s_law_reach f_law_reach fd_law_reach
  b_law_reach : Binds K fd_law_reach ["_law_parts", "_law_numbers"] []
  g_law_reach : mg "_law_reach" = some (.ref f_law_reach)
  f_law_gets : Addr
  fd_law_gets : FuncData
  F_law_gets : Fun K "_law_gets" "_law_gets" s_law_gets f_law_gets fd_law_gets
  b_law_gets : Binds K fd_law_gets ["_law_parts", "_law_numbers"] []
  g_law_gets : mg "_law_gets" = some (.ref f_law_gets)
  f_law_edge_rows : Addr
  fd_law_edge_rows : FuncData
  F_law_edge_rows : Fun K "_law_edge_rows" "_law_edge_rows" s_law_edge_rows f_law_edge_rows fd_law_edge_rows
  b_law_edge_rows : Binds K fd_law_edge_rows ["_law_draws_here", "_law_rows", "_law_width"] []
  g_law_edge_rows : mg "_law_edge_rows" = some (.ref f_law_edge_rows)
  f_law_all_made : Addr
  fd_law_all_made : FuncData
  F_law_all_made : Fun K "_law_all_made" "_law_all_made" s_law_all_made f_law_all_made fd_law_all_made
  b_law_all_made : Binds K fd_law_all_made ["_law_pool", "_law_twin", "_law_parts", "_law_width", "_law_rows"] []
  g_law_all_made : mg "_law_all_made" = some (.ref f_law_all_made)
  f_law_told_parts : Addr
  fd_law_told_parts : FuncData
  F_law_told_parts : Fun K "_law_told_parts" "_law_told_parts" s_law_told_parts f_law_told_parts fd_law_told_parts
  b_law_told_parts : Binds K fd_law_told_parts ["_law_pool", "_law_parts"] []
  g_law_told_parts : mg "_law_told_parts" = some (.ref f_law_told_parts)
  f_law_right_words : Addr
  fd_law_right_words : FuncData
  F_law_right_words : Fun K "_law_right_words" "_law_right_words" s_law_right_words f_law_right_words fd_law_right_words
  b_law_right_words : Binds K fd_law_right_words ["_law_draws_here", "_law_pool", "_law_rows", "_law_places", "_law_unknowns", "_law_width"] []
  g_law_right_words : mg "_law_right_words" = some (.ref f_law_right_words)
  f_law_made_of : Addr
  fd_law_made_of : FuncData
  F_law_made_of : Fun K "_law_made_of" "_law_made_of" s_law_made_of f_law_made_of fd_law_made_of
  b_law_made_of : Binds K fd_law_made_of ["_law_draws_here", "_law_pool", "_law_parts"] []
  g_law_made_of : mg "_law_made_of" = some (.ref f_law_made_of)
  f_law_put_in_told : Addr
  fd_law_put_in_told : FuncData
  F_law_put_in_told : Fun K "_law_put_in_told" "_law_put_in_told" s_law_put_in_told f_law_put_in_told fd_law_put_in_told
  b_law_put_in_told : Binds K fd_law_put_in_told ["_law_pool", "_law_part_here", "_law_new"] []
  g_law_put_in_told : mg "_law_put_in_told" = some (.ref f_law_put_in_told)
  f_law_filled : Addr
  fd_law_filled : FuncData
  F_law_filled : Fun K "_law_filled" "_law_filled" s_law_filled f_law_filled fd_law_filled
  b_law_filled : Binds K fd_law_filled ["_law_draws_here", "_law_pool", "_law_parts", "_law_rows", "_law_places", "_law_unknowns", "_law_width"] []
  g_law_filled : mg "_law_filled" = some (.ref f_law_filled)
  f_law_refused : Addr
  fd_law_refused : FuncData
  F_law_refused : Fun K "_law_refused" "_law_refused" s_law_refused f_law_refused fd_law_refused
  b_law_refused : Binds K fd_law_refused ["_law_pool", "_law_door"] []
  g_law_refused : mg "_law_refused" = some (.ref f_law_refused)
  f_law_full : Addr
  fd_law_full : FuncData
  F_law_full : Fun K "_law_full" "_law_full" s_law_full f_law_full fd_law_full
  b_law_full : Binds K fd_law_full [] []
  g_law_full : mg "_law_full" = some (.ref f_law_full)
  f_law : Addr
  fd_law : FuncData
  F_law : Fun K "law" "law" s_law f_law fd_law
  b_law : Binds K fd_law ["_law_script"] []
  g_law : mg "law" = some (.ref f_law)
  C : Addr
  cl : Cls K C
  g_Pool : mg "Pool" = some (.ref C)
  M_Pool : Mk K C f_p_init
  m_p_init : Meth K C "__init__" f_p_init
  m_p_len : Meth K C "__len__" f_p_len
  m_p_iter : Meth K C "__iter__" f_p_iter
  m_p_check_part : Meth K C "check_part" f_p_check_part
  m_p_check_parts : Meth K C "check_parts" f_p_check_parts
  m_p_num : Meth K C "num" f_p_num
  m_p_unknown : Meth K C "unknown" f_p_unknown
  m_p_apply : Meth K C "apply" f_p_apply
  m_p_part : Meth K C "part" f_p_part
  m_p_value : Meth K C "value" f_p_value
  m_p_reached : Meth K C "reached" f_p_reached
  m_p_reached_by : Meth K C "reached_by" f_p_reached_by
  m_p_unknowns : Meth K C "unknowns" f_p_unknowns
  m_p_made : Meth K C "_made" f_p_made
  m_p_word : Meth K C "_word" f_p_word
  m_p_gets : Meth K C "_gets" f_p_gets
  nA_width : NoAttr K C "width"
  nA__most : NoAttr K C "_most"
  nA__parts : NoAttr K C "_parts"
  nA__numbers : NoAttr K C "_numbers"
  t_MOST_PARTS : Tok
  c_MOST_PARTS : mg "MOST_PARTS" = some (.int 4000 t_MOST_PARTS)
  t_LAST_UNKNOWN : Tok
  c_LAST_UNKNOWN : mg "LAST_UNKNOWN" = some (.int 63 t_LAST_UNKNOWN)
  a_OPS : Addr
  c_OPS : mg "OPS" = some (.ref a_OPS)
  v_OPS : ∀ H, SqT K H a_OPS [.str "add", .str "sub", .str "and", .str "or", .str "xor", .str "less", .str "same"]
  a_EITHER_WAY : Addr
  c_EITHER_WAY : mg "EITHER_WAY" = some (.ref a_EITHER_WAY)
  v_EITHER_WAY : ∀ H, SqT K H a_EITHER_WAY [.str "add", .str "and", .str "or", .str "xor", .str "same"]
  n_len : mg "len" = none
  n_list : mg "list" = none
  n_tuple : mg "tuple" = none
  n_int : mg "int" = none
  n_min : mg "min" = none
  n_range : mg "range" = none
  n_isinstance : mg "isinstance" = none
  n_sorted : mg "sorted" = none
  n_bool : mg "bool" = none
  n_iter : mg "iter" = none
  C_TooMany : Addr
  g_TooMany : mg "TooMany" = some (.ref C_TooMany)
  o_TooMany : OexE K C_TooMany
  ii_TooMany : PySem.W.findIn K (.ref C_TooMany) "__init__" = some (some (.ref f_TooMany_init))
  it_TooMany : PySem.W.typeIn K (.ref f_TooMany_init) = some (.type "function")
  xf_TooMany : XfC K C_TooMany
  nf_TooMany : PySem.W.findIn K (.ref C_TooMany) "name" = some none
  te_TooMany : PySem.W.exmOne K (.ref C_TooMany) (.ref C_TooMany) = some true
  C_BadPart : Addr
  g_BadPart : mg "BadPart" = some (.ref C_BadPart)
  k_BadPart : PySem.W.keepIn K (.ref C_BadPart) = true
  x_BadPart : PySem.W.excIn K C_BadPart [.type "Exception", .type "BaseException", .type "object"] "Exception.__new__" = true
  sb_BadPart : PySem.W.subIn K (.ref C_BadPart) (.type "BaseException") = some true
  ty_BadPart : PySem.W.typeIn K (.ref C_BadPart) = some (.type "type")
  te_BadPart : PySem.W.exmOne K (.ref C_BadPart) (.ref C_BadPart) = some true
end My

/-! B -/
namespace My
open PySem L2
local macro_rules | `(tactic| walk_at "side") => `(tactic| first | with_reducible rfl | assumption | rfl | decide | omega | exact cpow1 (by omega) (by omega) | exact cdiv (by omega) (by omega) | exact two_pos _ | exact SqL.of (by assumption) | exact SqT.of (by assumption) | exact TyX.base (TyOf.int _) | exact TyX.base (TyOf.bl _) | exact TyX.base TyOf.non | exact scal_opt _ _ | exact k_ii | exact k_bi | exact k_ni | exact k_ib | exact k_bb | exact TyX.base (TyOf.lst (by assumption)) | exact k_ll | exact k_lt)
local macro_rules | `(tactic| walk_at "p") => `(tactic| repeat (first | refine And.intro (by walk_at "side") ?_ | apply Exists.intro | refine iteN (by assumption) ?_ | refine iteP (by assumption) ?_ | refine iteN (by decide) ?_ | refine iteP (by decide) ?_))

section
variable {P : Program} {w : World} {K : PySem.W.Frag} {mg : Str → Option Value} {base : Heap}
def sp_op_word (_ : Txt K mg) : Sp := fun vs H Q _ => ∃ (o : Op) (x y : Int) (n : Nat), vs = [.str o.s, .int x, .int y, .int n] ∧ n ≤ 12 ∧ Q (.int (opI n o x y)) H
theorem sp_op_word_len {T : Txt K mg} {vs H Q E} (h : sp_op_word T vs H Q E) : vs.length = 4 := by obtain ⟨_, _, _, _, rfl, _⟩ := h; rfl
theorem if_lt {Q : V → Hp → Prop} {H : Hp} {x y : Int} (k : Q (V.int (if x < y then 1 else 0)) H) : if decide (x < y) = true then Q (V.int 1) H else Q (V.int 0) H := by
  by_cases c : x < y
  · rw [if_pos c] at k; rw [if_pos (decide_eq_true c)]; exact k
  · rw [if_neg c] at k; rw [if_neg (fun z => c (of_decide_eq_true z))]; exact k
theorem if_eq {Q : V → Hp → Prop} {H : Hp} {x y : Int} (k : Q (V.int (if x = y then 1 else 0)) H) : if decide (V.int x = V.int y) = true then Q (V.int 1) H else Q (V.int 0) H := by
  by_cases c : x = y
  · rw [if_pos c] at k; rw [if_pos (decide_eq_true (congrArg V.int c))]; exact k
  · rw [if_neg c] at k; rw [if_neg (fun z => c (by have := of_decide_eq_true z; injection this))]; exact k
theorem ok_op_word (T : Txt K mg) : FnOk P w K mg base CX0 1 T.f_op_word T.fd_op_word ["name", "one", "other", "width"] (sp_op_word T) := by
  skip
  refine T.F_op_word.ok sc_op_word (fun vs H Q E h => sp_op_word_len h) (fun cdv A outer s H vs Q E hr h => ?_)
  obtain ⟨o, x, y, n, rfl, hn, k⟩ := h
  refine ⟨_, (pss_cons (ps_if (pt_cmpR op_eq (pv 0) pe_str (nomark _))
        (pss_one (ps_ret (pe_op op_and (pe_op op_add (pv 1) (pv 2)) (pe_op op_sub (pe_op op_shl pe_int (pv 3)) pe_int))))
        pss_nil)
       (pss_cons (ps_if (pt_cmpR op_eq (pv 0) pe_str (nomark _))
        (pss_one (ps_ret (pe_op op_and (pe_op op_sub (pv 1) (pv 2)) (pe_op op_sub (pe_op op_shl pe_int (pv 3)) pe_int))))
        pss_nil)
       (pss_cons (ps_if (pt_cmpR op_eq (pv 0) pe_str (nomark _))
        (pss_one (ps_ret (pe_op op_and (pv 1) (pv 2))))
        pss_nil)
       (pss_cons (ps_if (pt_cmpR op_eq (pv 0) pe_str (nomark _))
        (pss_one (ps_ret (pe_op op_or (pv 1) (pv 2))))
        pss_nil)
       (pss_cons (ps_if (pt_cmpR op_eq (pv 0) pe_str (nomark _))
        (pss_one (ps_ret (pe_op op_xor (pv 1) (pv 2))))
        pss_nil)
       (pss_cons (ps_if (pt_cmpR op_eq (pv 0) pe_str (nomark _))
        (pss_one (ps_ret (pe_ifExp (pt_cmpR op_lt (pv 1) (pv 2) (nomark _)) pe_int pe_int)))
        pss_nil)
       (pss_one (ps_ret (pe_ifExp (pt_cmpR op_eq (pv 1) (pv 2) (nomark _)) pe_int pe_int))))))))), ?_⟩
  cases o
  · walk_at "p"
    show Q (V.int (Builtin.bitAnd (x + y) _)) H
    rw [mask_eq]; exact k
  · walk_at "p"
    show Q (V.int (Builtin.bitAnd (x - y) _)) H
    rw [mask_eq]; exact k
  · walk_at "p"
    exact k
  · walk_at "p"
    exact k
  · walk_at "p"
    exact k
  · walk_at "p"
    exact if_lt k
  · walk_at "p"
    exact if_eq k
def sp_law_op (_ : Txt K mg) : Sp := fun vs H Q _ => ∃ (o : Op) (x y : Int) (n : Nat), vs = [.str o.s, .int x, .int y, .int n] ∧ n ≤ 12 ∧ Q (.int (opI n o x y)) H
theorem sp_law_op_len {T : Txt K mg} {vs H Q E} (h : sp_law_op T vs H Q E) : vs.length = 4 := by obtain ⟨_, _, _, _, rfl, _⟩ := h; rfl
theorem ok_law_op (T : Txt K mg) : FnOk P w K mg base CX0 1 T.f_law_op T.fd_law_op ["_law_name", "_law_one", "_law_other", "_law_width"] (sp_law_op T) := by
  skip
  refine T.F_law_op.ok sc_law_op (fun vs H Q E h => sp_law_op_len h) (fun cdv A outer s H vs Q E hr h => ?_)
  obtain ⟨o, x, y, n, rfl, hn, k⟩ := h
  refine ⟨_, (pss_cons (ps_if (pt_cmpR op_eq (pv 0) pe_str (nomark _))
        (pss_one (ps_ret (pe_op op_mod (pe_callTy call_intI (by rfl) T.n_int (by decide +kernel) (pa_cons (pe_op op_add (pv 1) (pv 2)) pa_nil)) (pe_op op_shl pe_int (pv 3)))))
        pss_nil)
       (pss_cons (ps_if (pt_cmpR op_eq (pv 0) pe_str (nomark _))
        (pss_one (ps_ret (pe_op op_mod (pe_callTy call_intI (by rfl) T.n_int (by decide +kernel) (pa_cons (pe_op op_sub (pv 1) (pv 2)) pa_nil)) (pe_op op_shl pe_int (pv 3)))))
        pss_nil)
       (pss_cons (ps_if (pt_cmpR op_eq (pv 0) pe_str (nomark _))
        (pss_one (ps_ret (pe_op op_and (pv 1) (pv 2))))
        pss_nil)
       (pss_cons (ps_if (pt_cmpR op_eq (pv 0) pe_str (nomark _))
        (pss_one (ps_ret (pe_op op_or (pv 1) (pv 2))))
        pss_nil)
       (pss_cons (ps_if (pt_cmpR op_eq (pv 0) pe_str (nomark _))
        (pss_one (ps_ret (pe_op op_xor (pv 1) (pv 2))))
        pss_nil)
       (pss_cons (ps_if (pt_cmpR op_eq (pv 0) pe_str (nomark _))
        (pss_one (ps_ret (pe_ifExp (pt_cmpR op_lt (pv 1) (pv 2) (nomark _)) pe_int pe_int)))
        pss_nil)
       (pss_one (ps_ret (pe_ifExp (pt_cmpR op_eq (pv 1) (pv 2) (nomark _)) pe_int pe_int))))))))), ?_⟩
  cases o
  · walk_at "p"
    have k' : Q (V.int ((x + y) % (1 * 2 ^ (n : Int).toNat))) H := by rw [Int.one_mul, Int.toNat_natCast]; exact k
    exact k'
  · walk_at "p"
    have k' : Q (V.int ((x - y) % (1 * 2 ^ (n : Int).toNat))) H := by rw [Int.one_mul, Int.toNat_natCast]; exact k
    exact k'
  · walk_at "p"
    exact k
  · walk_at "p"
    exact k
  · walk_at "p"
    exact k
  · walk_at "p"
    exact if_lt k
  · walk_at "p"
    exact if_eq k
/-- is_int of what is no text, no object -/
def isI : V → Bool | .int _ => true | _ => false
def plainV : V → Bool | .int _ => true | .bl _ => true | .non => true | _ => false
def sp_is_int (_ : Txt K mg) : Sp := fun vs H Q _ => ∃ x, vs = [x] ∧ plainV x = true ∧ Q (.bl (isI x)) H
theorem sp_is_int_len {T : Txt K mg} {vs H Q E} (h : sp_is_int T vs H Q E) : vs.length = 1 := by obtain ⟨_, rfl, _⟩ := h; rfl
theorem ok_is_int (T : Txt K mg) : FnOk P w K mg base CX0 1 T.f_is_int T.fd_is_int ["value"] (sp_is_int T) := by
  skip
  refine T.F_is_int.ok sc_is_int (fun vs H Q E h => sp_is_int_len h) (fun cdv A outer s H vs Q E hr h => ?_)
  obtain ⟨x, rfl, hp, k⟩ := h
  refine ⟨_, (pss_one (ps_ret (pe_and (pe_callB call_isTy (by rfl) T.n_isinstance (by decide +kernel) (pa_cons (pv 0) (pa_cons (pe_bltn (v := .ty "int") (by rfl) T.n_int (by decide +kernel) rfl) pa_nil))) (pe_one (pe_not (pe_callB call_isTy (by rfl) T.n_isinstance (by decide +kernel) (pa_cons (pv 0) (pa_cons (pe_bltn (v := .ty "bool") (by rfl) T.n_bool (by decide +kernel) rfl) pa_nil)))))))), ?_⟩
  cases x <;> (try cases hp)
  · walk_at "p"
    exact k
  · walk_at "p"
    exact k
  · walk_at "p"
    exact k
def sp_law_is_int (_ : Txt K mg) : Sp := fun vs H Q _ => ∃ x, vs = [x] ∧ plainV x = true ∧ Q (.bl (isI x)) H
theorem sp_law_is_int_len {T : Txt K mg} {vs H Q E} (h : sp_law_is_int T vs H Q E) : vs.length = 1 := by obtain ⟨_, rfl, _⟩ := h; rfl
theorem ok_law_is_int (T : Txt K mg) : FnOk P w K mg base CX0 1 T.f_law_is_int T.fd_law_is_int ["_law_thing"] (sp_law_is_int T) := by
  skip
  refine T.F_law_is_int.ok sc_law_is_int (fun vs H Q E h => sp_law_is_int_len h) (fun cdv A outer s H vs Q E hr h => ?_)
  obtain ⟨x, rfl, hp, k⟩ := h
  refine ⟨_, (pss_one (ps_ret (pe_and (pe_callB call_isTy (by rfl) T.n_isinstance (by decide +kernel) (pa_cons (pv 0) (pa_cons (pe_bltn (v := .ty "int") (by rfl) T.n_int (by decide +kernel) rfl) pa_nil))) (pe_one (pe_not (pe_callB call_isTy (by rfl) T.n_isinstance (by decide +kernel) (pa_cons (pv 0) (pa_cons (pe_bltn (v := .ty "bool") (by rfl) T.n_bool (by decide +kernel) rfl) pa_nil)))))))), ?_⟩
  cases x <;> (try cases hp)
  · walk_at "p"
    exact k
  · walk_at "p"
    exact k
  · walk_at "p"
    exact k
theorem same_new {H : Hp} {p : Addr} {o : HO} (hp : H p = none) : Same H (upd H p o) := fun b u e => by rw [upd_ne (ne_of_none e hp)]; exact e
/-- is_row -/
def sp_is_row (_ : Txt K mg) : Sp := fun vs H Q _ => (∃ a xs, vs = [.ref a] ∧ Row H a xs ∧ ∀ H', Same H H' → Q (.bl true) H') ∨ ∃ x, vs = [x] ∧ plainV x = true ∧ ∀ H', Same H H' → Q (.bl false) H'
theorem sp_is_row_len {T : Txt K mg} {vs H Q E} (h : sp_is_row T vs H Q E) : vs.length = 1 := by rcases h with ⟨_, _, rfl, _⟩ | ⟨_, rfl, _⟩ <;> rfl
theorem ok_is_row (T : Txt K mg) : FnOk P w K mg base CX0 1 T.f_is_row T.fd_is_row ["value"] (sp_is_row T) := by
  skip
  refine T.F_is_row.ok sc_is_row (fun vs H Q E h => sp_is_row_len h) (fun cdv A outer s H vs Q E hr h => ?_)
  refine ⟨_, (pss_one (ps_ret (pe_callB call_isTy2 (by rfl) T.n_isinstance (by decide +kernel) (pa_cons (pv 0) (pa_cons (pe_tup (pa_cons (pe_bltn (v := .ty "list") (by rfl) T.n_list (by decide +kernel) rfl) (pa_cons (pe_bltn (v := .ty "tuple") (by rfl) T.n_tuple (by decide +kernel) rfl) pa_nil))) pa_nil))))), ?_⟩
  rcases h with ⟨a, xs, rfl, ha | ha, k⟩ | ⟨x, rfl, hp, k⟩
  · walk_at "p"
    intro p hp
    have s := same_new (o := .tup [.ty "list", .ty "tuple"]) hp
    exact ⟨_, _, _, _, _, rfl, upd_same, .base (.lst (s _ _ ha)), _, _, k_ll, k_lt, k _ s⟩
  · walk_at "p"
    intro p hp
    have s := same_new (o := .tup [.ty "list", .ty "tuple"]) hp
    exact ⟨_, _, _, _, _, rfl, upd_same, .base (.tup (s _ _ ha)), _, _, k_tl, k_tt, k _ s⟩
  · walk_at "p"
    intro p hp
    have s := same_new (o := .tup [.ty "list", .ty "tuple"]) hp
    cases x <;> (try cases hp)
    · exact ⟨_, _, _, _, _, rfl, upd_same, .base .non, _, _, k_nl, k_nt, k _ s⟩
    · exact ⟨_, _, _, _, _, rfl, upd_same, .base (.bl _), _, _, k_bl', k_bt, k _ s⟩
    · exact ⟨_, _, _, _, _, rfl, upd_same, .base (.int _), _, _, k_il, k_it, k _ s⟩
/-- check_int, the bounds kept -/
def sp_check_int (_ : Txt K mg) : Sp := fun vs H Q _ => ∃ (v lo hi : Int) (n : V), vs = [.int v, .int lo, .int hi, n] ∧ lo ≤ v ∧ v ≤ hi ∧ Q (.int v) H
theorem sp_check_int_len {T : Txt K mg} {vs H Q E} (h : sp_check_int T vs H Q E) : vs.length = 4 := by obtain ⟨_, _, _, _, rfl, _⟩ := h; rfl
theorem ok_check_int (T : Txt K mg) : FnOk P w K mg base CX0 2 T.f_check_int T.fd_check_int ["value", "low", "high", "name"] (sp_check_int T) := by
  have G_is_int := ok_is_int (P := P) (w := w) (base := base) T
  refine T.F_check_int.ok sc_check_int (fun vs H Q E h => sp_check_int_len h) (fun cdv A outer s H vs Q E hr h => ?_)
  obtain ⟨v, lo, hi, n, rfl, h1, h2, k⟩ := h
  refine ⟨_, (pss_cons (ps_if (PW.pt (pw_or (pt_not (pt_val (pe_call G_is_int hr rfl T.g_is_int T.F_is_int.kp T.b_is_int .nil pass0 (pa_cons (pv 0) pa_nil)))) (pw_or1 (pt_cmpR op_lt (pv 0) (pv 1) (nomark _)))))
        (pss_one ps_never)
        pss_nil)
       (pss_cons (ps_if (PW.pt (pw_and (pt_cmpR op_notN (pv 2) pe_non (nomark _)) (pw_and1 (pt_cmpR op_gt (pv 0) (pv 2) (nomark _)))))
        (pss_one ps_never)
        pss_nil)
       (pss_one (ps_ret (pv 0))))), ?_⟩
  have e1 : ¬ decide (v < lo) = true := fun z => absurd (of_decide_eq_true z) (by omega)
  have e2 : ¬ decide (hi < v) = true := fun z => absurd (of_decide_eq_true z) (by omega)
  walk_at "p"
  exact k
def sp_ones (_ : Txt K mg) : Sp := fun vs H Q _ => ∃ (n : Nat), vs = [.int n] ∧ n ≤ 12 ∧ Q (.int (2 ^ n - 1)) H
theorem sp_ones_len {T : Txt K mg} {vs H Q E} (h : sp_ones T vs H Q E) : vs.length = 1 := by obtain ⟨_, rfl, _⟩ := h; rfl
theorem ok_ones (T : Txt K mg) : FnOk P w K mg base CX0 3 T.f_ones T.fd_ones ["width"] (sp_ones T) := by
  have G_check_int := ok_check_int (P := P) (w := w) (base := base) T
  refine T.F_ones.ok sc_ones (fun vs H Q E h => sp_ones_len h) (fun cdv A outer s H vs Q E hr h => ?_)
  obtain ⟨n, rfl, hn, k⟩ := h
  refine ⟨_, (pss_cons (ps_expr (pe_call G_check_int hr rfl T.g_check_int T.F_check_int.kp T.b_check_int .nil pass0 (pa_cons (pv 0) (pa_cons pe_int (pa_cons pe_int (pa_cons pe_str pa_nil))))))
       (pss_one (ps_ret (pe_op op_sub (pe_op op_shl pe_int (pv 0)) pe_int)))), ?_⟩
  walk_at "p"
  have k' : Q (V.int (1 * 2 ^ (n : Int).toNat - 1)) H := by rw [Int.one_mul, Int.toNat_natCast]; exact k
  exact k'
def sp_TooMany_init (T : Txt K mg) : Sp := sp_exinit T.C_TooMany "name"
theorem sp_TooMany_init_len {T : Txt K mg} {vs H Q E} (h : sp_TooMany_init T vs H Q E) : vs.length = 2 := sp_exinit_len h
theorem ok_TooMany_init (T : Txt K mg) : FnOk P w K mg base CX0 1 T.f_TooMany_init T.fd_TooMany_init ["self", "name"] (sp_TooMany_init T) := by
  skip
  refine T.F_TooMany_init.ok sc_TooMany_init (fun vs H Q E h => sp_TooMany_init_len h) (fun cdv A outer s H vs Q E hr h => ?_)
  obtain ⟨a, v, rfl, ha, k⟩ := h
  refine ⟨_, (pss_one (ps_ost1 (pv 0) (pv 1))), ?_⟩
  exact ⟨_, rfl, _, rfl, a, T.C_TooMany, rfl, T.o_TooMany, T.nf_TooMany, ha, k⟩
end
end My

/-! C -/
namespace My
open PySem L2
local macro_rules | `(tactic| walk_at "side") => `(tactic| first | with_reducible rfl | assumption | rfl | decide | omega | exact cpow1 (by omega) (by omega) | exact cdiv (by omega) (by omega) | exact two_pos _ | exact SqL.of (by assumption) | exact SqT.of (by assumption) | exact TyX.base (TyOf.int _) | exact TyX.base (TyOf.bl _) | exact TyX.base TyOf.non | exact scal_opt _ _ | exact k_ii | exact k_bi | exact k_ni | exact k_ib | exact k_bb | exact TyX.base (TyOf.lst (by assumption)) | exact k_ll | exact k_lt)
local macro_rules | `(tactic| walk_at "p") => `(tactic| repeat (first | refine And.intro (by walk_at "side") ?_ | apply Exists.intro | refine iteN (by assumption) ?_ | refine iteP (by assumption) ?_ | refine iteN (by decide) ?_ | refine iteP (by decide) ?_))

section
variable {P : Program} {w : World} {K : PySem.W.Frag} {mg : Str → Option Value} {base : Heap}
def sp_shortened_twice (_ : Txt K mg) : Sp := fun vs H Q _ => ∃ (o : Op), vs = [.str o.s] ∧ ∀ H', Same H H' → Q (shTwice o).v H'
theorem sp_shortened_twice_len {T : Txt K mg} {vs H Q E} (h : sp_shortened_twice T vs H Q E) : vs.length = 1 := by obtain ⟨_, rfl, _⟩ := h; rfl
theorem ok_shortened_twice (T : Txt K mg) : FnOk P w K mg base CX0 1 T.f_shortened_twice T.fd_shortened_twice ["name"] (sp_shortened_twice T) := by
  skip
  refine T.F_shortened_twice.ok sc_shortened_twice (fun vs H Q E h => sp_shortened_twice_len h) (fun cdv A outer s H vs Q E hr h => ?_)
  obtain ⟨o, rfl, k⟩ := h
  refine ⟨_, (pss_cons (ps_if (pt_cmpR op_in_seq (pv 0) (pe_tup (pa_cons pe_str (pa_cons pe_str (pa_cons pe_str pa_nil)))) (by rfl))
        (pss_one (ps_ret pe_str))
        pss_nil)
       (pss_cons (ps_if (pt_cmpR op_eq (pv 0) pe_str (nomark _))
        (pss_one (ps_ret pe_str))
        pss_nil)
       (pss_cons (ps_if (pt_cmpR op_eq (pv 0) pe_str (nomark _))
        (pss_one (ps_ret pe_str))
        pss_nil)
       (pss_one (ps_ret pe_non))))), ?_⟩
  walk_at "p"
  intro p hp
  refine ⟨p, _, rfl, Or.inr (SqT.of upd_same), rfl, rfl, _, rfl, ?_⟩
  have s1 := same_new (o := .tup [.str "sub", .str "xor", .str "less"]) hp
  cases o
  · refine iteN (by decide) ?_
    walk_at "p"
    exact k _ s1
  · refine iteP (by decide) ?_
    exact k _ s1
  · refine iteN (by decide) ?_
    walk_at "p"
    exact k _ s1
  · refine iteN (by decide) ?_
    walk_at "p"
    exact k _ s1
  · refine iteP (by decide) ?_
    exact k _ s1
  · refine iteP (by decide) ?_
    exact k _ s1
  · refine iteN (by decide) ?_
    walk_at "p"
    exact k _ s1
def sp_shortened_and (_ : Txt K mg) : Sp := fun vs H Q _ => ∃ (fa fb : Option Int) (eq : Bool) (most : Int), vs = [optV fa, optV fb, .bl eq, .int most] ∧ Q (shAnd fa fb eq most).v H
theorem sp_shortened_and_len {T : Txt K mg} {vs H Q E} (h : sp_shortened_and T vs H Q E) : vs.length = 4 := by obtain ⟨_, _, _, _, rfl, _⟩ := h; rfl
theorem ok_shortened_and (T : Txt K mg) : FnOk P w K mg base CX0 1 T.f_shortened_and T.fd_shortened_and ["first", "second", "equal", "most"] (sp_shortened_and T) := by
  skip
  refine T.F_shortened_and.ok sc_shortened_and (fun vs H Q E h => sp_shortened_and_len h) (fun cdv A outer s H vs Q E hr h => ?_)
  obtain ⟨fa, fb, eq, most, rfl, k⟩ := h
  refine ⟨_, (pss_cons (ps_if (PW.pt (pw_or (pt_cmpR op_eq (pv 0) pe_int (nomark _)) (pw_or1 (pt_cmpR op_eq (pv 1) pe_int (nomark _)))))
        (pss_one (ps_ret pe_str))
        pss_nil)
       (pss_cons (ps_if (pt_cmpR op_eq (pv 0) (pv 3) (nomark _))
        (pss_one (ps_ret pe_str))
        pss_nil)
       (pss_cons (ps_if (PW.pt (pw_or (pt_cmpR op_eq (pv 1) (pv 3) (nomark _)) (pw_or1 (pt_val (pv 2)))))
        (pss_one (ps_ret pe_str))
        pss_nil)
       (pss_one (ps_ret pe_non))))), ?_⟩
  have fin : ∀ r : Sh, shAnd fa fb eq most = r → Q r.v H := fun r e => by rw [← e]; exact k
  unfold shAnd at fin
  by_cases h1 : decide (optV fa = V.int 0) = true
  · have e1 := h1; rw [dec_opt, decide_eq_true_eq] at e1
    walk_at "p"; exact fin .zero (if_pos (.inl e1))
  by_cases h2 : decide (optV fb = V.int 0) = true
  · have e1 := h2; rw [dec_opt, decide_eq_true_eq] at e1
    walk_at "p"; exact fin .zero (if_pos (.inr e1))
  have e1 := h1; have e2 := h2
  rw [dec_opt, decide_eq_true_eq] at e1 e2
  rw [if_neg (by rintro (z | z); exact e1 z; exact e2 z)] at fin
  by_cases h3 : decide (optV fa = V.int most) = true
  · have e1 := h3; rw [dec_opt, decide_eq_true_eq] at e1
    walk_at "p"; exact fin .other (if_pos e1)
  have e3 := h3
  rw [dec_opt, decide_eq_true_eq] at e3
  rw [if_neg e3] at fin
  by_cases h4 : decide (optV fb = V.int most) = true
  · have e1 := h4; rw [dec_opt, decide_eq_true_eq] at e1
    walk_at "p"; exact fin .one (if_pos (.inl e1))
  have e4 := h4
  rw [dec_opt, decide_eq_true_eq] at e4
  by_cases h5 : eq = true
  · walk_at "p"; exact fin .one (if_pos (.inr h5))
  · walk_at "p"; exact fin .no (if_neg (by rintro (z | z); exact e4 z; exact h5 z))
def sp_shortened (_ : Txt K mg) : Sp := fun vs H Q _ => ∃ (o : Op) (fa fb : Option Int) (eq : Bool) (most : Int), vs = [.str o.s, optV fa, optV fb, .bl eq, .int most] ∧ ∀ H', Same H H' → Q (shortR o fa fb eq most).v H'
theorem sp_shortened_len {T : Txt K mg} {vs H Q E} (h : sp_shortened T vs H Q E) : vs.length = 5 := by obtain ⟨_, _, _, _, _, rfl, _⟩ := h; rfl
theorem ok_shortened (T : Txt K mg) : FnOk P w K mg base CX0 2 T.f_shortened T.fd_shortened ["name", "first", "second", "equal", "most"] (sp_shortened T) := by
  have G_shortened_and := ok_shortened_and (P := P) (w := w) (base := base) T; have G_shortened_twice := ok_shortened_twice (P := P) (w := w) (base := base) T
  refine T.F_shortened.ok sc_shortened (fun vs H Q E h => sp_shortened_len h) (fun cdv A outer s H vs Q E hr h => ?_)
  obtain ⟨o, fa, fb, eq, most, rfl, k⟩ := h
  refine ⟨_, (pss_cons (ps_if (pt_cmpR op_in_seq (pv 0) (pe_tup (pa_cons pe_str (pa_cons pe_str (pa_cons pe_str pa_nil)))) (by rfl))
        (pss_cons (ps_if (pt_cmpR op_eq (pv 1) pe_int (nomark _))
        (pss_one (ps_ret pe_str))
        pss_nil)
       (pss_one (ps_if (pt_cmpR op_eq (pv 2) pe_int (nomark _))
        (pss_one (ps_ret pe_str))
        pss_nil)))
        pss_nil)
       (pss_cons (ps_if (pt_cmpR op_eq (pv 0) pe_str (nomark _))
        (pss_one (ps_ret (pe_call G_shortened_and hr rfl T.g_shortened_and T.F_shortened_and.kp T.b_shortened_and .nil pass0 (pa_cons (pv 1) (pa_cons (pv 2) (pa_cons (pv 3) (pa_cons (pv 4) pa_nil)))))))
        pss_nil)
       (pss_cons (ps_if (PW.pt (pw_and (pt_cmpR op_eq (pv 2) pe_int (nomark _)) (pw_and1 (pt_cmpR op_eq (pv 0) pe_str (nomark _)))))
        (pss_one (ps_ret pe_str))
        pss_nil)
       (pss_cons (ps_if (PW.pt (pw_and (pt_cmpR op_eq (pv 2) pe_int (nomark _)) (pw_and1 (pt_cmpR op_eq (pv 0) pe_str (nomark _)))))
        (pss_one (ps_ret pe_str))
        pss_nil)
       (pss_cons (ps_if (pt_val (pv 3))
        (pss_one (ps_ret (pe_call G_shortened_twice hr rfl T.g_shortened_twice T.F_shortened_twice.kp T.b_shortened_twice .nil pass0 (pa_cons (pv 0) pa_nil))))
        pss_nil)
       (pss_one (ps_ret pe_non))))))), ?_⟩
  walk_at "p"
  intro p hp
  have s1 := same_new (o := .tup [.str "add", .str "or", .str "xor"]) hp
  refine ⟨p, _, rfl, Or.inr (SqT.of upd_same), rfl, rfl, _, rfl, ?_⟩
  have fin : ∀ (r : Sh) H', Same (upd H p (.tup [.str "add", .str "or", .str "xor"])) H' → shortR o fa fb eq most = r → Q r.v H' := fun r H' hs e => by rw [← e]; exact k H' (s1.trans hs)
  clear k
  have rf := Same.refl (upd H p (.tup [.str "add", .str "or", .str "xor"]))
  have q1 : ¬ decide (optV fa = V.int 0) = true → ¬ fa = some 0 := fun z => by rw [dec_opt, decide_eq_true_eq] at z; exact z
  have q2 : ¬ decide (optV fb = V.int 0) = true → ¬ fb = some 0 := fun z => by rw [dec_opt, decide_eq_true_eq] at z; exact z
  have q3 : decide (optV fa = V.int 0) = true → fa = some 0 := fun z => by rw [dec_opt, decide_eq_true_eq] at z; exact z
  have q4 : decide (optV fb = V.int 0) = true → fb = some 0 := fun z => by rw [dec_opt, decide_eq_true_eq] at z; exact z
  by_cases h1 : decide (optV fa = V.int 0) = true
  · have e1 := q3 h1
    by_cases h2 : decide (optV fb = V.int 0) = true
    · have e2 := q4 h2
      by_cases h5 : eq = true
      · cases o <;> walk_at "p"
        · exact fin .other _ rf (by simp [shortR, e1])
        · exact fin .one _ rf (by simp [shortR, e2])
        · exact fin _ _ rf (by simp [shortR])
        · exact fin .other _ rf (by simp [shortR, e1])
        · exact fin .other _ rf (by simp [shortR, e1])
        · exact fin .zero _ rf (by simp [shortR, e2])
        · exact fun H' hs => fin _ _ hs (by simp [shortR, h5])
      · cases o <;> walk_at "p"
        · exact fin .other _ rf (by simp [shortR, e1])
        · exact fin .one _ rf (by simp [shortR, e2])
        · exact fin _ _ rf (by simp [shortR])
        · exact fin .other _ rf (by simp [shortR, e1])
        · exact fin .other _ rf (by simp [shortR, e1])
        · exact fin .zero _ rf (by simp [shortR, e2])
        · exact fin .no _ rf (by simp [shortR, h5])
    · have e2 := q2 h2
      by_cases h5 : eq = true
      · cases o <;> walk_at "p"
        · exact fin .other _ rf (by simp [shortR, e1])
        · exact fun H' hs => fin _ _ hs (by simp [shortR, e2, h5])
        · exact fin _ _ rf (by simp [shortR])
        · exact fin .other _ rf (by simp [shortR, e1])
        · exact fin .other _ rf (by simp [shortR, e1])
        · exact fun H' hs => fin _ _ hs (by simp [shortR, e2, h5])
        · exact fun H' hs => fin _ _ hs (by simp [shortR, e2, h5])
      · cases o <;> walk_at "p"
        · exact fin .other _ rf (by simp [shortR, e1])
        · exact fin .no _ rf (by simp [shortR, e2, h5])
        · exact fin _ _ rf (by simp [shortR])
        · exact fin .other _ rf (by simp [shortR, e1])
        · exact fin .other _ rf (by simp [shortR, e1])
        · exact fin .no _ rf (by simp [shortR, e2, h5])
        · exact fin .no _ rf (by simp [shortR, e2, h5])
  · have e1 := q1 h1
    by_cases h2 : decide (optV fb = V.int 0) = true
    · have e2 := q4 h2
      by_cases h5 : eq = true
      · cases o <;> walk_at "p"
        · exact fin .one _ rf (by simp [shortR, e1, e2])
        · exact fin .one _ rf (by simp [shortR, e2])
        · exact fin _ _ rf (by simp [shortR])
        · exact fin .one _ rf (by simp [shortR, e1, e2])
        · exact fin .one _ rf (by simp [shortR, e1, e2])
        · exact fin .zero _ rf (by simp [shortR, e2])
        · exact fun H' hs => fin _ _ hs (by simp [shortR, h5])
      · cases o <;> walk_at "p"
        · exact fin .one _ rf (by simp [shortR, e1, e2])
        · exact fin .one _ rf (by simp [shortR, e2])
        · exact fin _ _ rf (by simp [shortR])
        · exact fin .one _ rf (by simp [shortR, e1, e2])
        · exact fin .one _ rf (by simp [shortR, e1, e2])
        · exact fin .zero _ rf (by simp [shortR, e2])
        · exact fin .no _ rf (by simp [shortR, h5])
    · have e2 := q2 h2
      by_cases h5 : eq = true
      · cases o <;> walk_at "p"
        · exact fun H' hs => fin _ _ hs (by simp [shortR, e1, e2, h5])
        · exact fun H' hs => fin _ _ hs (by simp [shortR, e2, h5])
        · exact fin _ _ rf (by simp [shortR])
        · exact fun H' hs => fin _ _ hs (by simp [shortR, e1, e2, h5])
        · exact fun H' hs => fin _ _ hs (by simp [shortR, e1, e2, h5])
        · exact fun H' hs => fin _ _ hs (by simp [shortR, e2, h5])
        · exact fun H' hs => fin _ _ hs (by simp [shortR, e2, h5])
      · cases o <;> walk_at "p"
        · exact fin .no _ rf (by simp [shortR, e1, e2, h5])
        · exact fin .no _ rf (by simp [shortR, e2, h5])
        · exact fin _ _ rf (by simp [shortR])
        · exact fin .no _ rf (by simp [shortR, e1, e2, h5])
        · exact fin .no _ rf (by simp [shortR, e1, e2, h5])
        · exact fin .no _ rf (by simp [shortR, e2, h5])
        · exact fin .no _ rf (by simp [shortR, e2, h5])
end
end My

/-! D -/
namespace My
open PySem L2
local macro_rules | `(tactic| walk_at "side") => `(tactic| first | with_reducible rfl | assumption | rfl | decide | omega | exact cpow1 (by omega) (by omega) | exact cdiv (by omega) (by omega) | exact two_pos _ | exact SqL.of (by assumption) | exact SqT.of (by assumption) | exact TyX.base (TyOf.int _) | exact TyX.base (TyOf.bl _) | exact TyX.base TyOf.non | exact scal_opt _ _ | exact k_ii | exact k_bi | exact k_ni | exact k_ib | exact k_bb | exact TyX.base (TyOf.lst (by assumption)) | exact k_ll | exact k_lt)
local macro_rules | `(tactic| walk_at "p") => `(tactic| repeat (first | refine And.intro (by walk_at "side") ?_ | apply Exists.intro | refine iteN (by assumption) ?_ | refine iteP (by assumption) ?_ | refine iteN (by decide) ?_ | refine iteP (by decide) ?_))

section
variable {P : Program} {w : World} {K : PySem.W.Frag} {mg : Str → Option Value} {base : Heap}
def sp_p_init (T : Txt K mg) : Sp := fun vs H Q _ => ∃ (p dx : Addr) (n : Nat), vs = [.ref p, .int n] ∧ H p = some (.ins T.C dx []) ∧ 1 ≤ n ∧ n ≤ 12 ∧
  ∀ (H' : Hp) (l d : Addr), H l = none → H d = none → l ≠ d → PoolAt T.C H' p l d n [] → (∀ b o, H b = some o → b ≠ p → H' b = some o) → Q .non H'
theorem sp_p_init_len {T : Txt K mg} {vs H Q E} (h : sp_p_init T vs H Q E) : vs.length = 2 := by obtain ⟨_, _, _, rfl, _⟩ := h; rfl
theorem ok_p_init (T : Txt K mg) : FnOk P w K mg base CX0 4 T.f_p_init T.fd_p_init ["self", "width"] (sp_p_init T) := by
  have G_check_int := ok_check_int (P := P) (w := w) (base := base) T; have G_ones := ok_ones (P := P) (w := w) (base := base) T
  refine T.F_p_init.ok sc_p_init (fun vs H Q E h => sp_p_init_len h) (fun cdv A outer s H vs Q E hr h => ?_)
  obtain ⟨p, dx, n, rfl, hp, n1, n2, k⟩ := h
  refine ⟨_, (pss_cons (ps_expr (pe_call G_check_int (hr.mono (by decide)) rfl T.g_check_int T.F_check_int.kp T.b_check_int .nil pass0 (pa_cons (pv 1) (pa_cons pe_int (pa_cons pe_int (pa_cons pe_str pa_nil))))))
       (pss_cons (ps_fld (pv 0) (pv 1) rfl)
       (pss_cons (ps_fld (pv 0) (pe_call G_ones hr rfl T.g_ones T.F_ones.kp T.b_ones .nil pass0 (pa_cons (pv 1) pa_nil)) rfl)
       (pss_cons (ps_fld (pv 0) (pe_lst pa_nil) rfl)
       (pss_one (ps_fld (pv 0) pe_dnewT rfl)))))), ?_⟩
  refine ⟨_, rfl, n, 1, 12, _, rfl, by omega, by omega, ?_⟩
  refine ⟨_, rfl, _, rfl, p, T.C, dx, [], rfl, hp, T.cl, T.nA_width, by decide, ?_⟩
  refine ⟨_, rfl, n, rfl, n2, ?_⟩
  refine ⟨_, rfl, p, T.C, dx, _, rfl, upd_same, T.cl, T.nA__most, by show 1 < 1000; decide, ?_⟩
  refine ⟨Nat.zero_le _, fun l hl => ?_⟩
  have pl : p ≠ l := fun e => by rw [e, upd_same] at hl; cases hl
  refine ⟨_, rfl, p, T.C, dx, _, rfl, (by rw [upd_ne pl]; exact upd_same), T.cl, T.nA__parts, (Nat.lt_of_le_of_lt (length_putF _ _ _) (by show 2 < 1000; decide)), ?_⟩
  intro d hd
  have pd : p ≠ d := fun e => by rw [e, upd_same] at hd; cases hd
  have ld : l ≠ d := fun e => by rw [e, upd_ne pd.symm, ← e, upd_same] at hd; cases hd
  have hl0 : H l = none := by rw [upd_ne pl.symm, upd_ne pl.symm] at hl; exact hl
  have hd0 : H d = none := by rw [upd_ne pd.symm, upd_ne ld.symm, upd_ne pd.symm, upd_ne pd.symm] at hd; exact hd
  refine ⟨_, rfl, p, T.C, dx, _, rfl, (by rw [upd_ne pd]; exact upd_same), T.cl, T.nA__numbers, (Nat.lt_of_le_of_lt (length_putF _ _ _) (Nat.lt_of_le_of_lt (Nat.succ_le_succ (length_putF _ _ _)) (by show 3 < 1000; decide))), ?_⟩
  refine k _ l d hl0 hd0 ld ⟨⟨dx, ?_⟩, ⟨[], ?_, rfl, fun i q e => by simp at e⟩, ?_⟩ fun b o e hb => ?_
  · have e := poolF_made n l d
    refine Eq.trans upd_same (congrArg (fun z => some (HO.ins T.C dx z)) e)
  · rw [upd_ne pl.symm, upd_ne ld, upd_ne pl.symm]; exact upd_same
  · rw [upd_ne pd.symm]; exact upd_same
  · rw [upd_ne hb, upd_ne (ne_of_none e hd0), upd_ne hb, upd_ne (ne_of_none e hl0), upd_ne hb, upd_ne hb]; exact e
def sp_p_len (T : Txt K mg) : Sp := fun vs H Q _ => ∃ (a l d : Addr) (n : Nat) (ps : List Part), vs = [.ref a] ∧ PoolAt T.C H a l d n ps ∧ Q (.int (ps.length : Nat)) H
theorem sp_p_len_len {T : Txt K mg} {vs H Q E} (h : sp_p_len T vs H Q E) : vs.length = 1 := by obtain ⟨_, _, _, _, _, rfl, _⟩ := h; rfl
theorem ok_p_len (T : Txt K mg) : FnOk P w K mg base CX0 1 T.f_p_len T.fd_p_len ["self"] (sp_p_len T) := by
  skip
  refine T.F_p_len.ok sc_p_len (fun vs H Q E h => sp_p_len_len h) (fun cdv A outer s H vs Q E hr h => ?_)
  obtain ⟨a, l, d, n, ps, rfl, ⟨⟨dx, ho⟩, hl, hd⟩, k⟩ := h
  obtain ⟨xs, hx, ex, _⟩ := hl.item
  refine ⟨_, (pss_one (ps_ret (pe_callB call_lenL (by rfl) T.n_len (by decide +kernel) (pa_cons (pe_fldA (pv 0)) pa_nil)))), ?_⟩
  refine ⟨_, rfl, a, T.C, dx, _, _, rfl, ho, T.cl, T.nA__parts, look_parts _ _ _, l, xs, rfl, SqL.of hx, ?_⟩
  rw [ex]
  exact k
def sp_p_iter (T : Txt K mg) : Sp := fun vs H Q _ => ∃ (a l d : Addr) (n : Nat) (ps : List Part), vs = [.ref a] ∧ PoolAt T.C H a l d n ps ∧ ∀ it, H it = none → Q (.ref it) (upd H it (ItO l it 0))
theorem sp_p_iter_len {T : Txt K mg} {vs H Q E} (h : sp_p_iter T vs H Q E) : vs.length = 1 := by obtain ⟨_, _, _, _, _, rfl, _⟩ := h; rfl
theorem ok_p_iter (T : Txt K mg) : FnOk P w K mg base CX0 1 T.f_p_iter T.fd_p_iter ["self"] (sp_p_iter T) := by
  skip
  refine T.F_p_iter.ok sc_p_iter (fun vs H Q E h => sp_p_iter_len h) (fun cdv A outer s H vs Q E hr h => ?_)
  obtain ⟨a, l, d, n, ps, rfl, ⟨⟨dx, ho⟩, hl, hd⟩, k⟩ := h
  obtain ⟨xs, hx, ex, _⟩ := hl.item
  refine ⟨_, (pss_one (ps_ret (pe_callB call_iterL (by rfl) T.n_iter (by decide +kernel) (pa_cons (pe_fldA (pv 0)) pa_nil)))), ?_⟩
  exact ⟨_, rfl, a, T.C, dx, _, _, rfl, ho, T.cl, T.nA__parts, look_parts _ _ _, l, xs, rfl, SqL.of hx, k⟩
def goodP (n : Nat) : V → Bool | .int i => decide (0 ≤ i ∧ i < n) | _ => false
def sp_p_check_part (T : Txt K mg) : Sp := fun vs H Q E => ∃ (a l d : Addr) (n : Nat) (ps : List Part) (x : V), vs = [.ref a, x] ∧ PoolAt T.C H a l d n ps ∧ plainV x = true ∧
  (goodP ps.length x = true → Q x H) ∧ (¬ goodP ps.length x = true → E (.ref T.C_BadPart) none H)
theorem sp_p_check_part_len {T : Txt K mg} {vs H Q E} (h : sp_p_check_part T vs H Q E) : vs.length = 2 := by obtain ⟨_, _, _, _, _, _, rfl, _⟩ := h; rfl
theorem ok_p_check_part (T : Txt K mg) : FnOk P w K mg base (L2.CX P w) 2 T.f_p_check_part T.fd_p_check_part ["self", "number"] (sp_p_check_part T) := by
  have G_is_int := ok_is_int (P := P) (w := w) (base := base) T
  refine T.F_p_check_part.okX sc_p_check_part (fun vs H Q E h => sp_p_check_part_len h) (fun cdv A outer s H vs Q E hr h => ?_)
  obtain ⟨a, l, d, n, ps, x, rfl, ⟨⟨dx, ho⟩, hl, hd⟩, hx, k1, k2⟩ := h
  obtain ⟨xs, hL, ex, _⟩ := hl.item
  refine ⟨_, (pss_cons (ps_if (PW.pt (pw_or (pt_not (pt_val (pe_call G_is_int hr rfl T.g_is_int T.F_is_int.kp T.b_is_int .nil pass0 (pa_cons (pv 1) pa_nil)))) (pw_or (pt_cmpR op_lt (pv 1) pe_int (nomark _)) (pw_or1 (pt_cmpR op_ge (pv 1) (pe_callB call_lenL (by rfl) T.n_len (by decide +kernel) (pa_cons (pe_fldA (pv 0)) pa_nil)) (nomark _))))))
        (pss_one (ps_raise rfl (takes_of rfl rfl rfl rfl) (pmk_0 PySem.F.excBase_Exception T.x_BadPart T.g_BadPart T.k_BadPart (raises_own T.sb_BadPart T.ty_BadPart) (by rfl))))
        pss_nil)
       (pss_one (ps_ret (pv 1)))), ?_⟩
  refine ⟨_, rfl, x, rfl, hx, _, rfl, ?_⟩
  cases x <;> (try cases hx)
  · refine iteP rfl (iteP rfl ?_)
    exact k2 (fun z => by cases z)
  · refine iteP rfl (iteP rfl ?_)
    exact k2 (fun z => by cases z)
  rename_i i
  refine iteN (fun z => by cases z) ?_
  refine ⟨_, rfl, _, _, rfl, rfl, _, rfl, ?_⟩
  by_cases h0 : i < 0
  · refine iteP (dT h0) (iteP rfl ?_)
    exact k2 (fun z => absurd (of_decide_eq_true z).1 (by omega))
  refine iteN (dF h0) ?_
  refine ⟨_, rfl, _, rfl, a, T.C, dx, _, _, rfl, ho, T.cl, T.nA__parts, look_parts _ _ _, l, xs, rfl, SqL.of hL, _, _, rfl, rfl, _, rfl, ?_⟩
  rw [ex]
  by_cases h1 : (ps.length : Int) ≤ i
  · refine iteP (dT h1) ?_
    exact k2 (fun z => absurd (of_decide_eq_true z).2 (by omega))
  refine iteN (dF h1) ?_
  refine ⟨_, rfl, ?_⟩
  exact k1 (decide_eq_true ⟨by omega, by omega⟩)
def sp_p_word (T : Txt K mg) : Sp := fun vs H Q _ => ∃ (a l d : Addr) (n : Nat) (ps : List Part) (i : Nat), vs = [.ref a, .int i] ∧ PoolAt T.C H a l d n ps ∧ i < ps.length ∧ Q (optV (wordOf ps i)) H
theorem sp_p_word_len {T : Txt K mg} {vs H Q E} (h : sp_p_word T vs H Q E) : vs.length = 2 := by obtain ⟨_, _, _, _, _, _, rfl, _⟩ := h; rfl
theorem op_ne_num (o : Op) : ¬ o.s = ("num" : Str) := by cases o <;> decide +kernel
theorem ok_p_word (T : Txt K mg) : FnOk P w K mg base CX0 1 T.f_p_word T.fd_p_word ["self", "number"] (sp_p_word T) := by
  skip
  refine T.F_p_word.ok sc_p_word (fun vs H Q E h => sp_p_word_len h) (fun cdv A outer s H vs Q E hr h => ?_)
  obtain ⟨a, l, d, n, ps, i, rfl, ⟨⟨dx, ho⟩, hl, hd⟩, hi, k⟩ := h
  obtain ⟨xs, hL, ex, hit⟩ := hl.item
  obtain ⟨p, hp⟩ : ∃ p, ps[i]? = some p := ⟨_, List.getElem?_eq_getElem hi⟩
  obtain ⟨t, ht, hT⟩ := hit i p hp
  rw [wordOf_at hp] at k
  refine ⟨_, (pss_cons (ps_set (i := 2) sc_p_word.nd rfl (Or.inl rfl) (pe_ix ix_list (pe_fldA (pv 0)) (pv 1) (fun _ _ => rfl)))
       (pss_one (ps_ret (pe_ifExp (pt_cmpR op_eq (pe_ix ix_tup (pv 2) pe_int (fun _ _ => rfl)) pe_str (nomark _)) (pe_ix ix_tup (pv 2) pe_int (fun _ _ => rfl)) pe_non)))), ?_⟩
  refine ⟨_, rfl, a, T.C, dx, _, _, rfl, ho, T.cl, T.nA__parts, look_parts _ _ _, _, rfl, l, xs, _, _, rfl, rfl, SqL.of hL, at_of rfl ht, ?_⟩
  cases p with
  | num v => exact ⟨_, rfl, t, _, 0, _, rfl, rfl, SqT.of hT, rfl, rfl, _, rfl, iteP (by decide) ⟨_, rfl, t, _, 1, _, rfl, rfl, SqT.of hT, rfl, k⟩⟩
  | get v => exact ⟨_, rfl, t, _, 0, _, rfl, rfl, SqT.of hT, rfl, rfl, _, rfl, iteN (by decide) k⟩
  | op o x y =>
    refine ⟨_, rfl, t, _, 0, _, rfl, rfl, SqT.of hT, rfl, rfl, _, rfl, iteN (fun z => op_ne_num o ?_) k⟩
    have z := of_decide_eq_true z
    injection z
theorem num_good (p : Part) (v : Int) : True := trivial
/-- what a call that makes parts leaves -/
def Made (C : Addr) (H : Hp) (a l d : Addr) (n : Nat) (r : Nat × List Part) (Q : VK) : Prop :=
  ∀ H' : Hp, PoolAt C H' a l d n r.2 → (∀ b o, H b = some o → b ≠ l → b ≠ d → H' b = some o) → Q (.int (r.1 : Nat)) H'
theorem PoolAt.news {C : Addr} {H : Hp} {a l d : Addr} {n : Nat} {ps : List Part} (h : PoolAt C H a l d n ps) {H' : Hp} (s : Same H H') : PoolAt C H' a l d n ps :=
  h.keep (S := fun _ => False) (fun b o e _ => s b o e) id id id fun _ _ _ => id
theorem Made.news {C : Addr} {H H' : Hp} {a l d : Addr} {n : Nat} {r : Nat × List Part} {Q : VK} (h : Made C H a l d n r Q) (s : Same H H') : Made C H' a l d n r Q :=
  fun H2 hp k => h H2 hp fun b o e h1 h2 => k b o (s b o e) h1 h2
/-- .. or lets out: a pool is full -/
def MadeX (C CT : Addr) (H : Hp) (a l d : Addr) (n : Nat) (r : Nat × List Part) (Q : VK) (E : XK) : Prop :=
  (r.2.length ≤ 4000 → Made C H a l d n r Q) ∧ (¬ r.2.length ≤ 4000 → ∀ (H' : Hp) (e : Addr), Same H H' → H' e = none → E (.ref CT) (some e) (upd H' e (.xd [("name", .str "parts")])))
theorem MadeX.news {C CT : Addr} {H H' : Hp} {a l d : Addr} {n : Nat} {r : Nat × List Part} {Q : VK} {E : XK} (h : MadeX C CT H a l d n r Q E) (s : Same H H') : MadeX C CT H' a l d n r Q E :=
  ⟨fun z => (h.1 z).news s, fun z H2 e s2 he => h.2 z H2 e (s.trans s2) he⟩
theorem Made.x {C CT : Addr} {H : Hp} {a l d : Addr} {n : Nat} {r : Nat × List Part} {Q : VK} {E : XK} (h : Made C H a l d n r Q) (z : r.2.length ≤ 4000) : MadeX C CT H a l d n r Q E := ⟨fun _ => h, fun z' => absurd z z'⟩
def sp_p_made (T : Txt K mg) : Sp := fun vs H Q E => ∃ (a l d t : Addr) (n : Nat) (ps : List Part) (p : Part), vs = [.ref a, .ref t] ∧ PoolAt T.C H a l d n ps ∧ H t = some (.tup p.vals) ∧ ps.length ≤ 4000 ∧ MadeX T.C T.C_TooMany H a l d n (mk ps p) Q E
theorem sp_p_made_len {T : Txt K mg} {vs H Q E} (h : sp_p_made T vs H Q E) : vs.length = 2 := by obtain ⟨_, _, _, _, _, _, _, rfl, _⟩ := h; rfl
theorem ok_p_made (T : Txt K mg) : FnOk P w K mg base (L2.CX P w) 3 T.f_p_made T.fd_p_made ["self", "part"] (sp_p_made T) := by
  have G_TooMany_init := ok_TooMany_init (P := P) (w := w) (base := base) T
  refine T.F_p_made.okX sc_p_made (fun vs H Q E h => sp_p_made_len h) (fun cdv A outer s H vs Q E hr h => ?_)
  obtain ⟨a, l, d, t, n, ps, p, rfl, ⟨⟨dx, ho⟩, hl, hd⟩, ht, hn, k⟩ := h
  obtain ⟨xs, hL, ex, hit⟩ := hl.item
  have hk : H t = some (.tup (p.key.map kV)) := by rw [key_vals]; exact ht
  have ld : l ≠ d := ne_of hL hd (by intro z; cases z)
  have la : a ≠ l := ne_of ho hL (by intro z; cases z)
  have da : a ≠ d := ne_of ho hd (by intro z; cases z)
  have tl : t ≠ l := ne_of ht hL (by intro z; cases z)
  have td : t ≠ d := ne_of ht hd (by intro z; cases z)
  refine ⟨_, (pss_cons (ps_if (pt_cmp (pc_din (hu_of hr) (pv 1) (pe_fldA (pv 0))))
        (pss_one (ps_ret (pe_dget (hu_of hr) (pe_fldA (pv 0)) (pv 1) (fun _ _ => rfl))))
        pss_nil)
       (pss_cons (ps_if (pt_cmpR op_ge (pe_callB call_lenL (by rfl) T.n_len (by decide +kernel) (pa_cons (pe_fldA (pv 0)) pa_nil)) (pe_glob (v := .int 4000) rfl T.c_MOST_PARTS ⟨_, rfl⟩) (nomark _))
        (pss_one (ps_raise rfl (takes_of rfl rfl rfl rfl) (pmk_E T.o_TooMany T.ii_TooMany T.it_TooMany G_TooMany_init hr T.b_TooMany_init (by rfl) T.g_TooMany (pa_cons pe_str pa_nil))))
        pss_nil)
       (pss_cons (ps_dput (hu_of hr) (pe_fldA (pv 0)) (pv 1) (pe_callB call_lenL (by rfl) T.n_len (by decide +kernel) (pa_cons (pe_fldA (pv 0)) pa_nil)) rfl)
       (pss_cons (ps_expr (pe_bm PySem.F.plainAttrs_list PySem.F.slot_list_append PySem.F.type_list_append mt_append (pe_fldA (pv 0)) (pa_cons (pv 1) pa_nil)))
       (pss_one (ps_ret (pe_dget (hu_of hr) (pe_fldA (pv 0)) (pv 1) (fun _ _ => rfl)))))))), ?_⟩
  refine ⟨_, rfl, _, rfl, a, T.C, dx, _, _, rfl, ho, T.cl, T.nA__numbers, look_numbers _ _ _, d, _, rfl, DGet.t hd hk, ?_⟩
  unfold mk at k
  rw [valV_numd]
  by_cases hm : p ∈ ps
  · rw [if_pos hm] at k ⊢
    refine ⟨_, rfl, iteP rfl ?_⟩
    refine ⟨_, rfl, a, T.C, dx, _, _, rfl, ho, T.cl, T.nA__numbers, look_numbers _ _ _, _, rfl, d, _, rfl, (by have := DGet.t hd hk; rw [valV_numd, if_pos hm] at this; exact this), ?_⟩
    exact k.1 hn H ⟨⟨dx, ho⟩, hl, hd⟩ fun b o e _ _ => e
  · rw [if_neg hm] at k ⊢
    refine ⟨_, rfl, iteN (by decide) ?_⟩
    refine ⟨_, rfl, a, T.C, dx, _, _, rfl, ho, T.cl, T.nA__parts, look_parts _ _ _, l, xs, rfl, SqL.of hL, _, _, rfl, rfl, _, rfl, ite2d (fun full => ?_) fun full => ?_⟩
    · exact raiseE (Q := E) fun e he => k.2 (by rw [List.length_append, List.length_singleton]; omega) H e (Same.refl _) he
    have hn : ps.length < 4000 := by omega
    have k := k.1 (by rw [List.length_append, List.length_singleton]; omega)
    refine ⟨_, rfl, a, T.C, dx, _, _, rfl, ho, T.cl, T.nA__parts, look_parts _ _ _, l, xs, rfl, SqL.of hL, _, rfl, a, T.C, dx, _, _, rfl, ho, T.cl, T.nA__numbers, look_numbers _ _ _, _, rfl, d, _, rfl, DPut.t hd hk (by rw [numd_len, sizeLine_eq]; omega), ?_⟩
    rw [putK_new _ (by rw [valV_numd, if_neg hm]), ex, ← numd_snoc]
    -- self._parts.append(part)
    have ho2 : upd H d (.dT (numd (ps ++ [p]))) a = some (.ins T.C dx (poolF n l d)) := by rw [upd_ne da]; exact ho
    have hL2 : upd H d (.dT (numd (ps ++ [p]))) l = some (.lst xs) := by rw [upd_ne ld]; exact hL
    refine ⟨_, rfl, a, T.C, dx, _, _, rfl, ho2, T.cl, T.nA__parts, look_parts _ _ _, Or.inl ⟨rfl, _, SqL.of hL2⟩, _, rfl, l, xs, _, rfl, rfl, hL2, by rw [ex, sizeLine_eq]; omega, ?_⟩
    have ho3 : upd (upd H d (.dT (numd (ps ++ [p])))) l (.lst (xs ++ [.ref t])) a = some (.ins T.C dx (poolF n l d)) := by rw [upd_ne la]; exact ho2
    have hd3 : upd (upd H d (.dT (numd (ps ++ [p])))) l (.lst (xs ++ [.ref t])) d = some (.dT (numd (ps ++ [p]))) := by rw [upd_ne ld.symm]; exact upd_same
    have hk3 : upd (upd H d (.dT (numd (ps ++ [p])))) l (.lst (xs ++ [.ref t])) t = some (.tup (p.key.map kV)) := by rw [upd_ne tl, upd_ne td]; exact hk
    refine ⟨_, rfl, a, T.C, dx, _, _, rfl, ho3, T.cl, T.nA__numbers, look_numbers _ _ _, _, rfl, d, _, rfl, (by have := DGet.t hd3 hk3; rw [valV_numd, if_pos (by simp)] at this; exact this), ?_⟩
    have ei : (ps ++ [p]).idxOf p = ps.length := by rw [List.idxOf_append, if_neg hm]; simp
    rw [ei]
    refine k _ ⟨⟨dx, ho3⟩, hl.push hL (fun b ys e => ?_) upd_same (by rw [upd_ne tl, upd_ne td]; exact ht), hd3⟩ fun b o e h1 h2 => by rw [upd_ne h1, upd_ne h2]; exact e
    rw [upd_ne (ne_of e hL (by intro z; cases z)), upd_ne (ne_of e hd (by intro z; cases z))]; exact e
end
end My

/-! E -/
namespace My
open PySem L2
local macro_rules | `(tactic| walk_at "side") => `(tactic| first | with_reducible rfl | assumption | rfl | decide | omega | exact cpow1 (by omega) (by omega) | exact cdiv (by omega) (by omega) | exact two_pos _ | exact SqL.of (by assumption) | exact SqT.of (by assumption) | exact TyX.base (TyOf.int _) | exact TyX.base (TyOf.bl _) | exact TyX.base TyOf.non | exact scal_opt _ _ | exact k_ii | exact k_bi | exact k_ni | exact k_ib | exact k_bb | exact TyX.base (TyOf.lst (by assumption)) | exact k_ll | exact k_lt)
local macro_rules | `(tactic| walk_at "p") => `(tactic| repeat (first | refine And.intro (by walk_at "side") ?_ | apply Exists.intro | refine iteN (by assumption) ?_ | refine iteP (by assumption) ?_ | refine iteN (by decide) ?_ | refine iteP (by decide) ?_))

section
variable {P : Program} {w : World} {K : PySem.W.Frag} {mg : Str → Option Value} {base : Heap}
def sp_p_num (T : Txt K mg) : Sp := fun vs H Q E => ∃ (a l d : Addr) (n : Nat) (ps : List Part) (v : Int), vs = [.ref a, .int v] ∧ PoolAt T.C H a l d n ps ∧ ps.length ≤ 4000 ∧ 0 ≤ v ∧ v ≤ 2 ^ n - 1 ∧ MadeX T.C T.C_TooMany H a l d n (mk ps (.num v)) Q E
theorem sp_p_num_len {T : Txt K mg} {vs H Q E} (h : sp_p_num T vs H Q E) : vs.length = 2 := by obtain ⟨_, _, _, _, _, _, rfl, _⟩ := h; rfl
theorem ok_p_num (T : Txt K mg) : FnOk P w K mg base (L2.CX P w) 4 T.f_p_num T.fd_p_num ["self", "value"] (sp_p_num T) := by
  have G_p_made := ok_p_made (P := P) (w := w) (base := base) T; have G_check_int := ok_check_int (P := P) (w := w) (base := base) T; have G_TooMany_init := ok_TooMany_init (P := P) (w := w) (base := base) T
  refine T.F_p_num.okX sc_p_num (fun vs H Q E h => sp_p_num_len h) (fun cdv A outer s H vs Q E hr h => ?_)
  obtain ⟨a, l, d, n, ps, v, rfl, hp, hn, h0, h1, k⟩ := h
  obtain ⟨dx, ho⟩ := id hp.ob
  refine ⟨_, (pss_cons (ps_expr (pe_call G_check_int (hr.mono (by decide)) rfl T.g_check_int T.F_check_int.kp T.b_check_int .nil pass0 (pa_cons (pv 1) (pa_cons pe_int (pa_cons (pe_fldA (pv 0)) (pa_cons pe_str pa_nil))))))
       (pss_one (ps_ret (pe_meth (pv 0) T.cl T.m_p_made G_p_made hr T.b_p_made .nil (passes_call (takes_of rfl rfl rfl rfl) (fun _ _ _ _ h => h)) (pa_cons (pe_tup (pa_cons pe_str (pa_cons (pv 1) pa_nil))) pa_nil))))), ?_⟩
  refine ⟨_, rfl, _, rfl, a, T.C, dx, _, _, rfl, ho, T.cl, T.nA__most, look_most _ _ _, v, 0, _, _, rfl, h0, h1, ?_⟩
  refine ⟨_, rfl, a, dx, _, rfl, ho, look_no _ _ _ (by decide +kernel) (by decide +kernel) (by decide +kernel) (by decide +kernel), _, rfl, by show 2 ≤ sizeLine; decide, fun t ht => ?_⟩
  refine ⟨a, l, d, t, n, ps, .num v, rfl, hp.news (same_new ht), upd_same, hn, ?_⟩
  exact k.news (same_new ht)
def sp_p_unknown (T : Txt K mg) : Sp := fun vs H Q E => ∃ (a l d : Addr) (n : Nat) (ps : List Part) (v : Int), vs = [.ref a, .int v] ∧ PoolAt T.C H a l d n ps ∧ ps.length ≤ 4000 ∧ 0 ≤ v ∧ v ≤ 63 ∧ MadeX T.C T.C_TooMany H a l d n (mk ps (.get v)) Q E
theorem sp_p_unknown_len {T : Txt K mg} {vs H Q E} (h : sp_p_unknown T vs H Q E) : vs.length = 2 := by obtain ⟨_, _, _, _, _, _, rfl, _⟩ := h; rfl
theorem ok_p_unknown (T : Txt K mg) : FnOk P w K mg base (L2.CX P w) 4 T.f_p_unknown T.fd_p_unknown ["self", "number"] (sp_p_unknown T) := by
  have G_p_made := ok_p_made (P := P) (w := w) (base := base) T; have G_check_int := ok_check_int (P := P) (w := w) (base := base) T; have G_TooMany_init := ok_TooMany_init (P := P) (w := w) (base := base) T
  refine T.F_p_unknown.okX sc_p_unknown (fun vs H Q E h => sp_p_unknown_len h) (fun cdv A outer s H vs Q E hr h => ?_)
  obtain ⟨a, l, d, n, ps, v, rfl, hp, hn, h0, h1, k⟩ := h
  obtain ⟨dx, ho⟩ := id hp.ob
  refine ⟨_, (pss_cons (ps_expr (pe_call G_check_int (hr.mono (by decide)) rfl T.g_check_int T.F_check_int.kp T.b_check_int .nil pass0 (pa_cons (pv 1) (pa_cons pe_int (pa_cons (pe_glob (v := .int 63) rfl T.c_LAST_UNKNOWN ⟨_, rfl⟩) (pa_cons pe_str pa_nil))))))
       (pss_one (ps_ret (pe_meth (pv 0) T.cl T.m_p_made G_p_made hr T.b_p_made .nil (passes_call (takes_of rfl rfl rfl rfl) (fun _ _ _ _ h => h)) (pa_cons (pe_tup (pa_cons pe_str (pa_cons (pv 1) pa_nil))) pa_nil))))), ?_⟩
  refine ⟨_, rfl, v, 0, _, _, rfl, h0, h1, ?_⟩
  refine ⟨_, rfl, a, dx, _, rfl, ho, look_no _ _ _ (by decide +kernel) (by decide +kernel) (by decide +kernel) (by decide +kernel), _, rfl, by show 2 ≤ sizeLine; decide, fun t ht => ?_⟩
  refine ⟨a, l, d, t, n, ps, .get v, rfl, hp.news (same_new ht), upd_same, hn, ?_⟩
  exact k.news (same_new ht)
def sp_p_part (T : Txt K mg) : Sp := fun vs H Q E => ∃ (a l d : Addr) (n : Nat) (ps : List Part) (i : Nat) (p : Part), vs = [.ref a, .int i] ∧ PoolAt T.C H a l d n ps ∧ ps[i]? = some p ∧ ∀ t, H t = some (.tup p.vals) → Q (.ref t) H
theorem sp_p_part_len {T : Txt K mg} {vs H Q E} (h : sp_p_part T vs H Q E) : vs.length = 2 := by obtain ⟨_, _, _, _, _, _, _, rfl, _⟩ := h; rfl
theorem ok_p_part (T : Txt K mg) : FnOk P w K mg base (L2.CX P w) 3 T.f_p_part T.fd_p_part ["self", "number"] (sp_p_part T) := by
  have G_p_check_part := ok_p_check_part (P := P) (w := w) (base := base) T
  refine T.F_p_part.okX sc_p_part (fun vs H Q E h => sp_p_part_len h) (fun cdv A outer s H vs Q E hr h => ?_)
  obtain ⟨a, l, d, n, ps, i, p, rfl, hp, hi, k⟩ := h
  obtain ⟨dx, ho⟩ := id hp.ob
  obtain ⟨xs, hL, ex, hit⟩ := hp.lst.item
  obtain ⟨t, ht, hT⟩ := hit i p hi
  have hlt := (List.getElem?_eq_some_iff.mp hi).1
  refine ⟨_, (pss_one (ps_ret (pe_ix ix_list (pe_fldA (pv 0)) (pe_meth (pv 0) T.cl T.m_p_check_part G_p_check_part hr T.b_p_check_part .nil (passes_call (takes_of rfl rfl rfl rfl) (fun _ _ _ _ h => h)) (pa_cons (pv 1) pa_nil)) (fun _ _ => rfl)))), ?_⟩
  refine ⟨_, rfl, a, T.C, dx, _, _, rfl, ho, T.cl, T.nA__parts, look_parts _ _ _, _, rfl, a, dx, _, rfl, ho, look_no _ _ _ (by decide +kernel) (by decide +kernel) (by decide +kernel) (by decide +kernel), _, rfl, ?_⟩
  refine ⟨a, l, d, n, ps, _, rfl, hp, rfl, fun _ => ?_, fun z => absurd (show goodP ps.length (.int i) = true from decide_eq_true ⟨by omega, by omega⟩) z⟩
  exact ⟨l, xs, _, _, rfl, rfl, SqL.of hL, at_of rfl ht, k t hT⟩
def sp_p_apply (T : Txt K mg) : Sp := fun vs H Q E => ∃ (a l d : Addr) (n : Nat) (ps : List Part) (o : Op) (x y : Nat), vs = [.ref a, .str o.s, .int x, .int y] ∧ PoolAt T.C H a l d n ps ∧ ps.length ≤ 4000 ∧ n ≤ 12 ∧ x < ps.length ∧ y < ps.length ∧
  MadeX T.C T.C_TooMany H a l d n (mApply n ps o x y) Q E
theorem sp_p_apply_len {T : Txt K mg} {vs H Q E} (h : sp_p_apply T vs H Q E) : vs.length = 4 := by obtain ⟨_, _, _, _, _, _, _, _, rfl, _⟩ := h; rfl
theorem good_of {n i : Nat} (h : i < n) : goodP n (.int i) = true := decide_eq_true ⟨by omega, by omega⟩
theorem in_ops (o : Op) : inV (.str o.s) [.str "add", .str "sub", .str "and", .str "or", .str "xor", .str "less", .str "same"] = true := by cases o <;> decide +kernel
theorem in_either (o : Op) : inV (.str o.s) [.str "add", .str "and", .str "or", .str "xor", .str "same"] = either o := by cases o <;> decide +kernel
theorem no_meth {m : Str} {w : Nat} {l d : Addr} (h : (decide (m = "width") || decide (m = "_most") || decide (m = "_parts") || decide (m = "_numbers")) = false) : (poolF w l d).lookup m = none := by
  simp only [Bool.or_eq_false_iff, decide_eq_false_iff_not] at h
  exact look_no _ _ _ h.1.1.1 h.1.1.2 h.1.2 h.2
theorem ok_p_apply (T : Txt K mg) : FnOk P w K mg base (L2.CX P w) 4 T.f_p_apply T.fd_p_apply ["self", "name", "one", "other"] (sp_p_apply T) := by
  have G_p_made := ok_p_made (P := P) (w := w) (base := base) T; have G_p_word := ok_p_word (P := P) (w := w) (base := base) T; have G_p_check_part := ok_p_check_part (P := P) (w := w) (base := base) T; have G_op_word := ok_op_word (P := P) (w := w) (base := base) T; have G_shortened := ok_shortened (P := P) (w := w) (base := base) T; have G_TooMany_init := ok_TooMany_init (P := P) (w := w) (base := base) T
  refine T.F_p_apply.okX sc_p_apply (fun vs H Q E h => sp_p_apply_len h) (fun cdv A outer s H vs Q E hr h => ?_)
  obtain ⟨a, l, d, n, ps, o, x, y, rfl, hp, hn, hw, hx, hy, k⟩ := h
  obtain ⟨dx, ho⟩ := id hp.ob
  refine ⟨_, (pss_cons (ps_if (pt_cmpR op_notIn_seq (pv 1) (pe_glob (v := .ref T.a_OPS) rfl T.c_OPS rfl) (by rfl))
        (pss_one ps_never)
        pss_nil)
       (pss_cons (ps_expr (pe_meth (pv 0) T.cl T.m_p_check_part G_p_check_part (hr.mono (by decide)) T.b_p_check_part .nil (passes_call (takes_of rfl rfl rfl rfl) (fun _ _ _ _ h => h)) (pa_cons (pv 2) pa_nil)))
       (pss_cons (ps_expr (pe_meth (pv 0) T.cl T.m_p_check_part G_p_check_part (hr.mono (by decide)) T.b_p_check_part .nil (passes_call (takes_of rfl rfl rfl rfl) (fun _ _ _ _ h => h)) (pa_cons (pv 3) pa_nil)))
       (pss_cons (ps_par (i := 4) (j := 5) (by rfl) sc_p_apply.nd rfl rfl (by decide) rfl rfl (pa_cons (pe_meth (pv 0) T.cl T.m_p_word G_p_word (hr.mono (by decide)) T.b_p_word .nil pass0 (pa_cons (pv 2) pa_nil)) (pa_cons (pe_meth (pv 0) T.cl T.m_p_word G_p_word (hr.mono (by decide)) T.b_p_word .nil pass0 (pa_cons (pv 3) pa_nil)) pa_nil)) (by rfl))
       (Evl.pss_cut (ps_if (PW.pt (pw_and (pt_cmpR op_notN (pv 4) pe_non (nomark _)) (pw_and1 (pt_cmpR op_notN (pv 5) pe_non (nomark _)))))
        (pss_one (ps_ret (pe_meth (pv 0) T.cl T.m_p_made G_p_made hr T.b_p_made .nil (passes_call (takes_of rfl rfl rfl rfl) (fun _ _ _ _ h => h)) (pa_cons (pe_tup (pa_cons pe_str (pa_cons (pe_call G_op_word (hr.mono (by decide)) rfl T.g_op_word T.F_op_word.kp T.b_op_word .nil pass0 (pa_cons (pv 1) (pa_cons (pv 4) (pa_cons (pv 5) (pa_cons (pe_fldA (pv 0)) pa_nil))))) pa_nil))) pa_nil))))
        pss_nil)
       (Evl.pss_cut (ps_if (PW.pt (pw_and (pt_cmpR op_in_seq (pv 1) (pe_glob (v := .ref T.a_EITHER_WAY) rfl T.c_EITHER_WAY rfl) (by rfl)) (pw_and1 (pt_cmpR op_gt (pv 2) (pv 3) (nomark _)))))
        (pss_cons (ps_par (i := 2) (j := 3) (by rfl) sc_p_apply.nd rfl rfl (by decide) rfl rfl (pa_cons (pv 3) (pa_cons (pv 2) pa_nil)) (by rfl))
       (pss_one (ps_par (i := 4) (j := 5) (by rfl) sc_p_apply.nd rfl rfl (by decide) rfl rfl (pa_cons (pv 5) (pa_cons (pv 4) pa_nil)) (by rfl))))
        pss_nil)
       (pss_cons (ps_set (i := 6) sc_p_apply.nd rfl (Or.inl rfl) (pe_call G_shortened (hr.mono (by decide)) rfl T.g_shortened T.F_shortened.kp T.b_shortened .nil pass0 (pa_cons (pv 1) (pa_cons (pv 4) (pa_cons (pv 5) (pa_cons (pe_cmpR op_eq (pv 2) (pv 3) (nomark _)) (pa_cons (pe_fldA (pv 0)) pa_nil)))))))
       (pss_cons (ps_if (pt_cmpR op_eq (pv 6) pe_str (nomark _))
        (pss_one (ps_ret (pv 2)))
        pss_nil)
       (pss_cons (ps_if (pt_cmpR op_eq (pv 6) pe_str (nomark _))
        (pss_one (ps_ret (pv 3)))
        pss_nil)
       (pss_cons (ps_if (pt_cmpR op_eq (pv 6) pe_str (nomark _))
        (pss_one (ps_ret (pe_meth (pv 0) T.cl T.m_p_made G_p_made hr T.b_p_made .nil (passes_call (takes_of rfl rfl rfl rfl) (fun _ _ _ _ h => h)) (pa_cons (pe_tup (pa_cons pe_str (pa_cons pe_int pa_nil))) pa_nil))))
        pss_nil)
       (pss_cons (ps_if (pt_cmpR op_eq (pv 6) pe_str (nomark _))
        (pss_one (ps_ret (pe_meth (pv 0) T.cl T.m_p_made G_p_made hr T.b_p_made .nil (passes_call (takes_of rfl rfl rfl rfl) (fun _ _ _ _ h => h)) (pa_cons (pe_tup (pa_cons pe_str (pa_cons pe_int pa_nil))) pa_nil))))
        pss_nil)
       (pss_one (ps_ret (pe_meth (pv 0) T.cl T.m_p_made G_p_made hr T.b_p_made .nil (passes_call (takes_of rfl rfl rfl rfl) (fun _ _ _ _ h => h)) (pa_cons (pe_tup (pa_cons (pv 1) (pa_cons (pv 2) (pa_cons (pv 3) pa_nil)))) pa_nil))))))))))))))), ?_⟩
  refine ⟨_, rfl, T.a_OPS, _, rfl, Or.inr (T.v_OPS _), rfl, rfl, _, rfl, iteN (by show ¬ (if true = true then !inV _ _ else inV _ _) = true; rw [if_pos rfl, in_ops]; decide) ?_⟩
  refine ⟨_, rfl, a, dx, _, rfl, ho, no_meth (by decide +kernel), _, rfl, a, l, d, n, ps, _, rfl, hp, rfl, fun _ => ?_, fun z => absurd (good_of hx) z⟩
  refine ⟨_, rfl, a, dx, _, rfl, ho, no_meth (by decide +kernel), _, rfl, a, l, d, n, ps, _, rfl, hp, rfl, fun _ => ?_, fun z => absurd (good_of hy) z⟩
  refine ⟨_, rfl, a, dx, _, rfl, ho, no_meth (by decide +kernel), _, rfl, a, l, d, n, ps, x, rfl, hp, hx, ?_⟩
  refine ⟨_, rfl, a, dx, _, rfl, ho, no_meth (by decide +kernel), _, rfl, a, l, d, n, ps, y, rfl, hp, hy, ?_⟩
  refine ⟨_, _, rfl, ?_⟩
  -- if first is not None and second is not None: return self._made(..)
  refine ⟨fun σ' H' => H' = H ∧ σ' = [some (.ref a), some (.str o.s), some (.int x), some (.int y), some (optV (wordOf ps x)), some (optV (wordOf ps y)), none] ∧
    MadeX T.C T.C_TooMany H a l d n (if either o = true ∧ y < x then fin ps o y x (shortR o (wordOf ps y) (wordOf ps x) (decide (y = x)) (2 ^ n - 1)) else fin ps o x y (shortR o (wordOf ps x) (wordOf ps y) (decide (x = y)) (2 ^ n - 1))) Q E, ?_, ?_⟩
  · unfold mApply at k
    cases efa : wordOf ps x with
    | none =>
      rw [efa] at k
      exact ⟨_, rfl, rfl, _, rfl, iteN (by decide) (iteN (by decide) ⟨rfl, rfl, k⟩)⟩
    | some fx =>
      cases efb : wordOf ps y with
      | none =>
        rw [efa, efb] at k
        exact ⟨_, rfl, rfl, _, rfl, iteP rfl ⟨_, rfl, rfl, _, rfl, iteN (by decide) ⟨rfl, rfl, k⟩⟩⟩
      | some fy =>
        rw [efa, efb] at k
        refine ⟨_, rfl, rfl, _, rfl, iteP rfl ⟨_, rfl, rfl, _, rfl, iteP rfl ?_⟩⟩
        refine ⟨_, rfl, a, dx, _, rfl, ho, no_meth (by decide +kernel), _, rfl, _, rfl, _, rfl, _, rfl, a, T.C, dx, _, _, rfl, ho, T.cl, T.nA_width, look_width _ _ _, o, fx, fy, n, rfl, hw, by show 2 ≤ sizeLine; decide, fun t ht => ?_⟩
        exact ⟨a, l, d, t, n, ps, .num _, rfl, hp.news (same_new ht), upd_same, hn, k.news (same_new ht)⟩
  rintro σ' H' ⟨rfl, rfl, k⟩
  -- the operands change places
  refine ⟨fun σ' H1 => H1 = H' ∧ ∃ (x y : Nat) (fa fb : Option Int), σ' = [some (.ref a), some (.str o.s), some (.int x), some (.int y), some (optV fa), some (optV fb), none] ∧ x < ps.length ∧ y < ps.length ∧
    MadeX T.C T.C_TooMany H' a l d n (fin ps o x y (shortR o fa fb (decide (x = y)) (2 ^ n - 1))) Q E, ?_, ?_⟩
  · refine ⟨_, rfl, T.a_EITHER_WAY, _, rfl, Or.inr (T.v_EITHER_WAY _), rfl, rfl, _, rfl, ?_⟩
    by_cases he : either o = true
    · refine iteP (by show (if false = true then _ else inV _ _) = true; rw [if_neg Bool.false_ne_true, in_either]; exact he) ?_
      refine ⟨_, rfl, _, rfl, _, _, rfl, rfl, _, rfl, ?_⟩
      by_cases hxy : y < x
      · rw [if_pos ⟨he, hxy⟩] at k
        refine iteP (dT (by omega)) ?_
        exact ⟨_, rfl, _, rfl, _, _, rfl, _, rfl, _, rfl, _, _, rfl, rfl, y, x, _, _, rfl, hy, hx, k⟩
      · rw [if_neg (fun z => hxy z.2)] at k
        exact iteN (dF (by omega)) ⟨rfl, x, y, _, _, rfl, hx, hy, k⟩
    · rw [if_neg (fun z => he z.1)] at k
      exact iteN (by show ¬ (if false = true then _ else inV _ _) = true; rw [if_neg Bool.false_ne_true, in_either]; exact he) (iteN (by decide) ⟨rfl, x, y, _, _, rfl, hx, hy, k⟩)
  rintro σ' H1 ⟨rfl, x, y, fa, fb, rfl, hx, hy, k⟩
  have ed : decide (V.int (x : Int) = V.int y) = decide (x = y) := by
    by_cases e : x = y
    · rw [decide_eq_true e, decide_eq_true (by rw [e])]
    · rw [decide_eq_false e, decide_eq_false (fun z => e (by injection z with z; omega))]
  refine ⟨_, rfl, _, rfl, _, rfl, _, rfl, _, rfl, rfl, _, rfl, a, T.C, dx, _, _, rfl, ho, T.cl, T.nA__most, look_most _ _ _, ?_⟩
  rw [ed]
  refine ⟨o, fa, fb, _, _, rfl, fun H2 s2 => ?_⟩
  have k := k.news s2
  have hp := hp.news s2
  have ho := s2 _ _ ho
  cases e : shortR o fa fb (decide (x = y)) (2 ^ n - 1) with
  | one =>
    rw [e] at k
    refine ⟨_, rfl, rfl, _, rfl, iteP (by decide) ?_⟩
    exact ⟨_, rfl, k.1 hn H2 hp fun b u h _ _ => h⟩
  | other =>
    rw [e] at k
    refine ⟨_, rfl, rfl, _, rfl, iteN (by decide) ⟨_, rfl, rfl, _, rfl, iteP (by decide) ?_⟩⟩
    exact ⟨_, rfl, k.1 hn H2 hp fun b u h _ _ => h⟩
  | zero =>
    rw [e] at k
    refine ⟨_, rfl, rfl, _, rfl, iteN (by decide) ⟨_, rfl, rfl, _, rfl, iteN (by decide) ⟨_, rfl, rfl, _, rfl, iteP (by decide) ?_⟩⟩⟩
    refine ⟨_, rfl, a, dx, _, rfl, ho, no_meth (by decide +kernel), by show 2 ≤ sizeLine; decide, fun t ht => ?_⟩
    exact ⟨a, l, d, t, n, ps, .num 0, rfl, hp.news (same_new ht), upd_same, hn, k.news (same_new ht)⟩
  | unit =>
    rw [e] at k
    refine ⟨_, rfl, rfl, _, rfl, iteN (by decide) ⟨_, rfl, rfl, _, rfl, iteN (by decide) ⟨_, rfl, rfl, _, rfl, iteN (by decide) ⟨_, rfl, rfl, _, rfl, iteP (by decide) ?_⟩⟩⟩⟩
    refine ⟨_, rfl, a, dx, _, rfl, ho, no_meth (by decide +kernel), by show 2 ≤ sizeLine; decide, fun t ht => ?_⟩
    exact ⟨a, l, d, t, n, ps, .num 1, rfl, hp.news (same_new ht), upd_same, hn, k.news (same_new ht)⟩
  | no =>
    rw [e] at k
    refine ⟨_, rfl, rfl, _, rfl, iteN (by decide) ⟨_, rfl, rfl, _, rfl, iteN (by decide) ⟨_, rfl, rfl, _, rfl, iteN (by decide) ⟨_, rfl, rfl, _, rfl, iteN (by decide) ?_⟩⟩⟩⟩
    refine ⟨_, rfl, a, dx, _, rfl, ho, no_meth (by decide +kernel), _, rfl, _, rfl, _, rfl, by show 3 ≤ sizeLine; decide, fun t ht => ?_⟩
    exact ⟨a, l, d, t, n, ps, .op o x y, rfl, hp.news (same_new ht), upd_same, hn, k.news (same_new ht)⟩
end
end My

/-! F -/
namespace My
open PySem L2
local macro_rules | `(tactic| walk_at "side") => `(tactic| first | with_reducible rfl | assumption | rfl | decide | omega | exact cpow1 (by omega) (by omega) | exact cdiv (by omega) (by omega) | exact two_pos _ | exact SqL.of (by assumption) | exact SqT.of (by assumption) | exact TyX.base (TyOf.int _) | exact TyX.base (TyOf.bl _) | exact TyX.base TyOf.non | exact scal_opt _ _ | exact k_ii | exact k_bi | exact k_ni | exact k_ib | exact k_bb | exact TyX.base (TyOf.lst (by assumption)) | exact k_ll | exact k_lt)
local macro_rules | `(tactic| walk_at "p") => `(tactic| repeat (first | refine And.intro (by walk_at "side") ?_ | apply Exists.intro | refine iteN (by assumption) ?_ | refine iteP (by assumption) ?_ | refine iteN (by decide) ?_ | refine iteP (by decide) ?_))

section
variable {P : Program} {w : World} {K : PySem.W.Frag} {mg : Str → Option Value} {base : Heap}
theorem yesT {σ : L2.St} {H : Hp} {Q : Bool → Hp → Prop} (h : Q true H) : tYes σ H Q := h
def goodR (n : Nat) (xs : List V) : Bool := xs.all (goodP n)
theorem of_goodR {n : Nat} : ∀ {xs : List V}, goodR n xs = true → ∃ S : List Nat, xs = natL S ∧ ∀ i ∈ S, i < n
  | [], _ => ⟨[], rfl, by simp⟩
  | x :: xs, h => by
    unfold goodR at h
    rw [List.all_cons, Bool.and_eq_true] at h
    obtain ⟨S, e, hS⟩ := of_goodR (xs := xs) h.2
    have h1 := h.1
    cases x with
    | int j =>
      have := of_decide_eq_true h1
      refine ⟨j.toNat :: S, ?_, fun i hi => ?_⟩
      · unfold natL at e ⊢
        rw [List.map_cons, e]
        congr 2; omega
      · rcases List.mem_cons.mp hi with rfl | hi
        · omega
        · exact hS i hi
    | _ => cases h1
theorem goodR_of {n : Nat} {S : List Nat} (h : ∀ i ∈ S, i < n) : goodR n (natL S) = true := by
  unfold goodR natL
  rw [List.all_map, List.all_eq_true]
  exact fun i hi => good_of (h i hi)
theorem plain_nat {S : List Nat} : ∀ x ∈ natL S, plainV x = true := fun x hx => by
  unfold natL at hx
  obtain ⟨k, _, rfl⟩ := List.mem_map.mp hx
  rfl
/-- a row of part numbers, or what is none -/
def RowIs (H : Hp) (v : V) (xs : List V) : Prop := ∃ q, v = .ref q ∧ Row H q xs ∧ (∀ x ∈ xs, plainV x = true) ∧ xs.length ≤ 4000
def sp_p_check_parts (T : Txt K mg) : Sp := fun vs H Q E => ∃ (a l d : Addr) (n : Nat) (ps : List Part) (v : V), vs = [.ref a, v] ∧ PoolAt T.C H a l d n ps ∧
  ((plainV v = true ∧ ∀ H', Same H H' → E (.ref T.C_BadPart) none H') ∨
   ∃ xs, RowIs H v xs ∧ (goodR ps.length xs = true → ∀ (t : Addr) (H' : Hp), Same H H' → H t = none → H' t = some (.tup xs) → Q (.ref t) H') ∧
     (¬ goodR ps.length xs = true → ∀ H', Same H H' → E (.ref T.C_BadPart) none H'))
theorem sp_p_check_parts_len {T : Txt K mg} {vs H Q E} (h : sp_p_check_parts T vs H Q E) : vs.length = 2 := by obtain ⟨_, _, _, _, _, _, rfl, _⟩ := h; rfl
theorem ok_p_check_parts (T : Txt K mg) : FnOk P w K mg base (L2.CX P w) 3 T.f_p_check_parts T.fd_p_check_parts ["self", "numbers"] (sp_p_check_parts T) := by
  have G_p_check_part := ok_p_check_part (P := P) (w := w) (base := base) T; have G_is_row := ok_is_row (P := P) (w := w) (base := base) T
  refine T.F_p_check_parts.okX sc_p_check_parts (fun vs H Q E h => sp_p_check_parts_len h) (fun cdv A outer s H vs Q E hr h => ?_)
  obtain ⟨a, l, d, n, ps, v, rfl, hp, h⟩ := h
  obtain ⟨dx, ho⟩ := id hp.ob
  have sz : sizeLine = 16777216 := sizeLine_eq
  refine ⟨_, (pss_cons (ps_if (pt_not (pt_val (pe_call G_is_row (hr.mono (by decide)) rfl T.g_is_row T.F_is_row.kp T.b_is_row .nil pass0 (pa_cons (pv 1) pa_nil))))
        (pss_one (ps_raise rfl (takes_of rfl rfl rfl rfl) (pmk_0 PySem.F.excBase_Exception T.x_BadPart T.g_BadPart T.k_BadPart (raises_own T.sb_BadPart T.ty_BadPart) (by rfl))))
        pss_nil)
       (pss_one (ps_ret (pe_callTy call_tupleL (by rfl) T.n_tuple (by decide +kernel) (pa_cons (pe_lcX (own := [("number", 2)]) (g := gName 2) rfl sc_p_check_parts.nd rfl rfl (takes_of rfl rfl rfl rfl) (pi_seq (i := 1) rfl (Or.inl rfl)) (blkOk_by (N := ["self", "numbers", "number"]) (sc := defScope s_p_check_parts) (by decide +kernel)) (fun _ _ _ _ _ => by exact pg_name (i := 2) sc_p_check_parts.nd rfl (Or.inl rfl)) (fun _ _ _ _ _ xe hp => by exact (pe_meth (pv 0) T.cl T.m_p_check_part G_p_check_part hr T.b_p_check_part .nil hp (pa_cons (pv 2) pa_nil)))) pa_nil))))), ?_⟩
  rcases h with ⟨hv, k⟩ | ⟨xs, ⟨q, rfl, hr, hx, hz⟩, k1, k2⟩
  · exact ⟨_, rfl, .inr ⟨v, rfl, hv, fun H1 s1 => ⟨_, rfl, iteP rfl (k H1 s1)⟩⟩⟩
  refine ⟨_, rfl, .inl ⟨q, xs, rfl, hr, fun H1 s1 => ⟨_, rfl, iteN (by decide) ?_⟩⟩⟩
  have hr1 := hr.news s1
  refine ⟨q, xs, rfl, hr1, fun J G w hG D hD => ?_⟩
  refine lc_it w (fun j H2 => Same H1 H2 ∧ H2 D = some (.lst (xs.take j)) ∧ (xs.take j).all (goodP ps.length) = true) ⟨same_new hD, upd_same, rfl⟩ (fun j H2 _ ⟨s2, _⟩ => hG _ (hr1.eq s2)) ?_ ?_
  · rintro j x _ H2 hj ⟨s2, hD2, g2⟩ ⟨rfl, hxj⟩
    refine ⟨rfl, yesT (iteP rfl ?_)⟩
    have h12 := s1.trans s2
    refine ⟨_, rfl, a, dx, _, rfl, h12 _ _ ho, no_meth (by decide +kernel), _, rfl, a, l, d, n, ps, x, rfl, hp.news h12, hx x (List.mem_of_getElem? hxj), fun g => ?_, fun g => ?_⟩
    · refine ⟨_, hD2, by rw [List.length_take]; omega, fun b o e => ?_, ?_, ?_⟩
      · rw [upd_ne (ne_of_none e hD)]; exact s2 _ _ e
      · rw [upd_same, List.take_add_one, hxj]; rfl
      · rw [List.take_add_one, hxj, List.all_append, g2]; simp [g]
    · exact k2 (fun z => g (List.all_eq_true.mp z x (List.mem_of_getElem? hxj))) H2 h12
  · rintro H2 ⟨s2, hD2, g2⟩
    rw [List.take_length] at hD2 g2
    refine ⟨D, _, rfl, SqL.of hD2, fun t ht => ?_⟩
    exact k1 g2 t _ ((s1.trans s2).trans (same_new ht)) ((s1.trans s2).free ht) upd_same
def sp_p_reached_by (T : Txt K mg) : Sp := fun vs H Q E => ∃ (a l d : Addr) (n : Nat) (ps : List Part) (v : V), vs = [.ref a, v] ∧ PoolAt T.C H a l d n ps ∧ WF ps ∧ ps.length ≤ 4000 ∧
  ((plainV v = true ∧ ∀ H', Same H H' → E (.ref T.C_BadPart) none H') ∨
   ∃ xs, RowIs H v xs ∧ (∀ (S : List Nat), xs = natL S → (∀ i ∈ S, i < ps.length) → ∀ (t : Addr) (H' : Hp) (ks : List Nat), ReachLS ps S ks → Same H H' → H t = none → H' t = some (.tup (natL ks)) → Q (.ref t) H') ∧
     (¬ goodR ps.length xs = true → ∀ H', Same H H' → E (.ref T.C_BadPart) none H'))
theorem sp_p_reached_by_len {T : Txt K mg} {vs H Q E} (h : sp_p_reached_by T vs H Q E) : vs.length = 2 := by obtain ⟨_, _, _, _, _, _, rfl, _⟩ := h; rfl
theorem ok_p_reached_by (T : Txt K mg) : FnOk P w K mg base (L2.CX P w) 4 T.f_p_reached_by T.fd_p_reached_by ["self", "numbers"] (sp_p_reached_by T) := by
  have G_p_check_parts := ok_p_check_parts (P := P) (w := w) (base := base) T
  refine T.F_p_reached_by.okX sc_p_reached_by (fun vs H Q E h => sp_p_reached_by_len h) (fun cdv A outer s H vs Q E hr h => ?_)
  obtain ⟨a, l, d, n, ps, v, rfl, hp, wf, h40, h⟩ := h
  obtain ⟨dx, ho⟩ := id hp.ob
  have sz : sizeLine = 16777216 := sizeLine_eq
  refine ⟨_, (pss_cons (ps_setDc (i := 2) (own := [("number", 6)]) (g := gName 6) (tt := tYes) rfl sc_p_reached_by.nd rfl rfl (sw_trueD rfl rfl rfl (by decide +kernel)) (pi_tup (pe_meth (pv 0) T.cl T.m_p_check_parts G_p_check_parts hr T.b_p_check_parts .nil (passes_call (takes_of rfl rfl rfl rfl) (fun _ _ _ _ h => h)) (pa_cons (pv 1) pa_nil))) (blkOk_by (N := ["self", "numbers", "found", "waiting", "part", "operand", "number"]) (sc := defScope s_p_reached_by) (by decide +kernel)) (fun _ _ _ _ _ => by exact pg_name (i := 6) sc_p_reached_by.nd rfl (Or.inl rfl)) (fun _ _ _ _ _ => by exact pts_nil) (fun _ _ _ _ _ => by exact (pv 6)) (fun _ _ _ _ _ => by exact pe_bl))
       (pss_cons (ps_set (i := 3) sc_p_reached_by.nd rfl (Or.inl rfl) (pe_callTy (call_listD rfl) (by rfl) T.n_list (by decide +kernel) (pa_cons (pv 2) pa_nil)))
       (pss_cons (ps_while (passes_of rfl) (pt_truth (pv 3) (by intro _; rfl))
        (pss_cons (ps_set (i := 4) sc_p_reached_by.nd rfl (Or.inl rfl) (pe_ix ix_list (pe_fldA (pv 0)) (pe_bm0 PySem.F.plainAttrs_list PySem.F.slot_list_pop PySem.F.type_list_pop mt_pop (pv 3)) (fun _ _ => rfl)))
       (pss_one (ps_if (pt_cmpR op_eq (pe_callB call_lenT (by rfl) T.n_len (by decide +kernel) (pa_cons (pv 4) pa_nil)) pe_int (nomark _))
        (pss_one (ps_for (passes_of rfl) rfl (pi_tup (pe_slice sl_tup (pv 4) (po_some pe_int) po_none)) (pg_name (i := 5) sc_p_reached_by.nd rfl (Or.inl rfl))
        (pss_one (ps_if (pt_cmp (pc_dnotin (hu_of hr) (pv 5) (pv 2)))
        (pss_cons (ps_dput (hu_of hr) (pv 2) (pv 5) pe_bl rfl)
       (pss_one (ps_expr (pe_bm PySem.F.plainAttrs_list PySem.F.slot_list_append PySem.F.type_list_append mt_append (pv 3) (pa_cons (pv 5) pa_nil)))))
        pss_nil))))
        pss_nil))))
       (pss_one (ps_ret (pe_callTy call_tupleL (by rfl) T.n_tuple (by decide +kernel) (pa_cons (pe_callB (cr_sortedDA rfl) (by rfl) T.n_sorted (by decide +kernel) (pa_cons (pv 2) pa_nil)) pa_nil))))))), ?_⟩
  rcases h with ⟨hv, k⟩ | ⟨xs, hr, k1, k2⟩
  · exact ⟨_, rfl, a, dx, _, rfl, ho, no_meth (by decide +kernel), _, rfl, a, l, d, n, ps, v, rfl, hp, .inl ⟨hv, k⟩⟩
  obtain ⟨q, rfl, hr'⟩ := id hr
  refine ⟨_, rfl, a, dx, _, rfl, ho, no_meth (by decide +kernel), _, rfl, a, l, d, n, ps, _, rfl, hp, .inr ⟨xs, hr, fun g t H1 s1 ht ht1 => ?_, k2⟩⟩
  obtain ⟨S, rfl, hS⟩ := of_goodR g
  have k := k1 S rfl hS
  clear k1 k2 hr hr'
  refine ⟨t, rfl, ⟨_, SqT.of ht1⟩, fun D hD => ?_⟩
  have hSl : ∀ j, (fromS (S.take j)).length ≤ ps.length := fun j => nodup_lt (fromS_seeds S j).nd fun k hk => hS k (List.mem_of_mem_take ((fromS_seeds S j).sub k hk))
  refine dc_tup (K := K) (a := t) (xs := natL S) (fun j H2 => Same H1 H2 ∧ H2 D = some (.dK (dk (fromS (S.take j))))) ⟨same_new hD, upd_same⟩ (fun j H2 _ ⟨s2, _⟩ => SqT.of (s2 _ _ ht1)) ?_ ?_
  · rintro j x H2 hj ⟨s2, hD2⟩
    obtain ⟨i, hi, rfl⟩ := natL_get hj
    refine ⟨rfl, yesT (iteP rfl ?_)⟩
    refine ⟨_, rfl, _, Sum.inl (i : Int), rfl, hD2, by rw [dk_len]; have := hSl j; omega, fun b o e => ?_, ?_⟩
    · rw [upd_ne (ne_of_none e hD)]; exact s2 _ _ e
    · rw [upd_same, dk_add, fromS_succ hi]
  rintro H2 ⟨s2, hD2⟩
  rw [natL_len, List.take_length] at hD2
  have hF0 := fromS_seeds S S.length
  have hSl := hSl S.length
  rw [List.take_length] at hF0 hSl
  have hD0 : H D = none := s1.free hD
  -- waiting = list(found)
  refine ⟨_, rfl, D, _, rfl, Rd.of hD2, fun L hL => ?_⟩
  have DL : D ≠ L := ne_of_none hD2 hL
  have hL0 : H L = none := (s1.trans s2).free hL
  -- while waiting: ..
  refine gN ?_
  dsimp only
  refine seqT ?_
  refine (while_by (fun σ H3 => ∃ (F W : List Nat) (v4 v5 : Option V), σ = [some (.ref a), some (.ref q), some (.ref D), some (.ref L), v4, v5, none] ∧ FWS ps S F W ∧ (∀ b o, H b = some o → H3 b = some o) ∧
      H3 D = some (.dK (dk F)) ∧ H3 L = some (.lst (natL W)) ∧ 2 * (ps.length - F.length) + W.length ≤ 2 * ps.length) (fun σ H3 => (match H3 D with | some (.dK kvs) => 2 * (ps.length - kvs.length) | _ => 0) + (match H3 L with | some (.lst xs) => xs.length | _ => 0)) ?_ ?_ ?_)
  · refine ⟨fromS S, fromS S, none, none, rfl, hF0.fw, fun b o e => ?_, ?_, ?_, ?_⟩
    · rw [upd_ne (ne_of_none e hL0)]; exact s2 _ _ (s1 _ _ e)
    · rw [upd_ne DL]; exact hD2
    · rw [upd_same, ← dk_kV]
    · omega
  · rintro σ H3 ⟨F, W, v4, v5, rfl, fw, hk, hD3, hL3, hB⟩
    refine ⟨_, rfl, _, Or.inl ⟨_, SqL.of hL3, rfl⟩, ?_⟩
    have hlen : F.length ≤ ps.length := nodup_lt fw.nd fun j hj => (fw.rch j hj).lt wf hS
    rcases W.eq_nil_or_concat with rfl | ⟨W', j, rfl⟩
    · refine iteN (by decide) ?_
      -- return tuple(sorted(found))
      refine ⟨_, rfl, D, _, F.map fun k => ((k : Nat) : Int), rfl, Rd.of hD3, dk_keys F, by rw [List.length_map]; omega, fun ys p hy1 hy2 hp3 => ?_⟩
      refine ⟨p, _, rfl, SqL.of upd_same, fun t' ht' => ?_⟩
      obtain ⟨ks, rfl, hasc, hmem⟩ := asc_of fw.nd hy1 hy2
      have s3 : Same H H3 := hk
      refine k t' _ ks ⟨hasc, fun z => (hmem z).trans ⟨fw.rch z, fun r => ?_⟩⟩ ((s3.trans (same_new hp3)).trans (same_new ht')) ((s3.trans (same_new hp3)).free ht') ?_
      · obtain ⟨i, m, r⟩ := r
        induction r with
        | self => exact fw.all _ m
        | left _ e ih => exact (fw.clo _ ih (by simp) _ _ _ e).1
        | right _ e ih => exact (fw.clo _ ih (by simp) _ _ _ e).2
      · rw [upd_same, List.map_map]; rfl
    · refine iteP (by simp [natL]) ?_
      rw [List.concat_eq_append] at fw hL3 hB
      have mid := fw.mid
      have hjF : j ∈ F := fw.sub j (by simp)
      have hjn : j < ps.length := (fw.rch j hjF).lt wf hS
      obtain ⟨p, hpj⟩ : ∃ p, ps[j]? = some p := ⟨_, List.getElem?_eq_getElem hjn⟩
      have hp3 : PoolAt T.C H3 a l d n ps := hp.news hk
      obtain ⟨xs, hLl, ex, hit⟩ := hp.lst.item
      obtain ⟨t5, ht5, hT5⟩ := hit j p hpj
      have lL : l ≠ L := ne_of_none hLl hL0
      have tL : t5 ≠ L := ne_of_none hT5 hL0
      have hL3' := hL3
      rw [natL_snoc] at hL3'
      refine ⟨_, rfl, a, T.C, dx, _, _, rfl, hk _ _ ho, T.cl, T.nA__parts, look_parts _ _ _, _, rfl, Or.inl ⟨rfl, _, SqL.of hL3'⟩, L, _, .int (j : Nat), rfl, rfl, hL3', by simp, ?_⟩
      rw [List.dropLast_concat]
      have k4 : ∀ b o, H b = some o → upd H3 L (.lst (natL W')) b = some o := fun b o e => by rw [upd_ne (ne_of_none e hL0)]; exact hk _ _ e
      refine ⟨l, xs, _, _, rfl, rfl, SqL.of (k4 _ _ hLl), at_of rfl ht5, ?_⟩
      refine ⟨_, rfl, t5, _, rfl, SqT.of (k4 _ _ hT5), rfl, _, rfl, ?_⟩
      have hD4 : upd H3 L (.lst (natL W')) D = some (.dK (dk F)) := by rw [upd_ne DL]; exact hD3
      have m3 : (match H3 D with | some (.dK kvs) => 2 * (ps.length - kvs.length) | _ => 0) + (match H3 L with | some (.lst xs) => xs.length | _ => 0) = 2 * (ps.length - F.length) + (W'.length + 1) := by
        rw [hD3, hL3']
        simp [dk_len, natL_len]
      have close : ∀ (H5 : Hp) (v5 v6 : Option V) (s : List Nat × List Nat), FWS ps S s.1 s.2 → (∀ b o, H b = some o → H5 b = some o) → H5 D = some (.dK (dk s.1)) → H5 L = some (.lst (natL s.2)) → 2 * (ps.length - s.1.length) + s.2.length ≤ 2 * (ps.length - F.length) + W'.length →
          (∃ (F W : List Nat) (v4 v7 : Option V), [some (V.ref a), some (.ref q), some (.ref D), some (.ref L), v5, v6, none] = [some (V.ref a), some (.ref q), some (.ref D), some (.ref L), v4, v7, none] ∧ FWS ps S F W ∧ (∀ b o, H b = some o → H5 b = some o) ∧ H5 D = some (.dK (dk F)) ∧ H5 L = some (.lst (natL W)) ∧ 2 * (ps.length - F.length) + W.length ≤ 2 * ps.length) ∧
          (match H5 D with | some (.dK kvs) => 2 * (ps.length - kvs.length) | _ => 0) + (match H5 L with | some (.lst xs) => xs.length | _ => 0) < (match H3 D with | some (.dK kvs) => 2 * (ps.length - kvs.length) | _ => 0) + (match H3 L with | some (.lst xs) => xs.length | _ => 0) := by
        intro H5 v5 v6 s f h1 h2 h3 hm
        refine ⟨⟨s.1, s.2, v5, v6, rfl, f, h1, h2, h3, by rw [List.length_append, List.length_singleton] at hB; omega⟩, ?_⟩
        rw [m3, h2, h3]
        simp only [dk_len, natL_len]
        omega
      cases p with
      | num v =>
        refine iteN (fun z => absurd (of_decide_eq_true z) (by simp [Part.vals])) ?_
        exact close _ _ _ (F, W') (mid.fw fun o a b e => by rw [hpj] at e; cases e) k4 hD4 upd_same (Nat.le_refl _)
      | get v =>
        refine iteN (fun z => absurd (of_decide_eq_true z) (by simp [Part.vals])) ?_
        exact close _ _ _ (F, W') (mid.fw fun o a b e => by rw [hpj] at e; cases e) k4 hD4 upd_same (Nat.le_refl _)
      | op o x y =>
        refine iteP (dT rfl) ?_
        refine ⟨_, rfl, 1, rfl, t5, _, rfl, SqT.of (k4 _ _ hT5), by intro z; exact absurd z.1 (by show ¬ HT.sIx 3 0 (some 1) = 0; decide), fun s hs => ?_⟩
        refine ⟨s, rfl, ⟨_, SqT.of upd_same⟩, ?_⟩
        have ecut : cutV (Part.op o x y).vals (some 1) none = [.int (x : Nat), .int (y : Nat)] := rfl
        rw [ecut]
        have rx := ReachS.left (fw.rch j hjF) hpj
        have ry := ReachS.right (fw.rch j hjF) hpj
        generalize hH4 : upd H3 L (.lst (natL W')) = H4 at *
        have hL4 : H4 L = some (.lst (natL W')) := by rw [← hH4]; exact upd_same
        have hs0 : H s = none := by
          cases e : H s with
          | none => rfl
          | some u => rw [k4 s u e] at hs; cases hs
        have sD : s ≠ D := (ne_of_none hD4 hs).symm
        have sL : s ≠ L := (ne_of_none hL4 hs).symm
        refine for_tup (K := K) (a := s) (xs := [.int (x : Nat), .int (y : Nat)]) (fun i' σ' H5 => ∃ v6 : Option V, σ' = [some (.ref a), some (.ref q), some (.ref D), some (.ref L), some (.ref t5), v6, none] ∧
          (∀ b o, H b = some o → H5 b = some o) ∧ H5 s = some (.tup [.int (x : Nat), .int (y : Nat)]) ∧ MidS ps S (adds (F, W') ([x, y].take i')) j ∧ (∀ z ∈ [x, y].take i', z ∈ (adds (F, W') ([x, y].take i')).1) ∧
          H5 D = some (.dK (dk (adds (F, W') ([x, y].take i')).1)) ∧ H5 L = some (.lst (natL (adds (F, W') ([x, y].take i')).2)) ∧
          2 * (ps.length - (adds (F, W') ([x, y].take i')).1.length) + (adds (F, W') ([x, y].take i')).2.length ≤ 2 * (ps.length - F.length) + W'.length) ?_ ?_ ?_ ?_
        · refine ⟨_, rfl, fun b o e => ?_, upd_same, mid, by simp, ?_, ?_, Nat.le_refl _⟩
          · rw [upd_ne (ne_of_none e hs0)]; exact k4 _ _ e
          · rw [upd_ne sD.symm]; exact hD4
          · rw [upd_ne sL.symm]; exact hL4
        · rintro i' σ' H5 _ ⟨_, _, _, h2, _⟩
          exact SqT.of h2
        · rintro i' v σ' H5 hv ⟨v6, rfl, h1, h2, md, h3, h4, h5, h6⟩
          obtain ⟨z, hz, rfl⟩ : ∃ z : Nat, [x, y][i']? = some z ∧ v = .int z := by
            match i', hv with
            | 0, hv => cases hv; exact ⟨x, rfl, rfl⟩
            | 1, hv => cases hv; exact ⟨y, rfl, rfl⟩
            | i' + 2, hv => simp at hv
          have rz : ReachS ps S z := by
            match i', hz with
            | 0, hz => cases hz; exact rx
            | 1, hz => cases hz; exact ry
            | i' + 2, hz => simp at hz
          have e1 := adds_two (s := (F, W')) x y i' z hz
          have et : [x, y].take (i' + 1) = [x, y].take i' ++ [z] := by rw [List.take_add_one, hz]; rfl
          have md2 := md.add rz
          have hlen2 : (addN (adds (F, W') ([x, y].take i')) z).1.length ≤ ps.length := nodup_lt md2.nd fun k hk => (md2.rch k hk).lt wf hS
          have me := addN_meas ps.length _ z hlen2
          have h3' : ∀ u ∈ [x, y].take (i' + 1), u ∈ (addN (adds (F, W') ([x, y].take i')) z).1 := fun u hu => by
            rw [et] at hu
            rcases List.mem_append.mp hu with hu | hu
            · exact addN_mono (h3 u hu)
            · simp at hu; subst hu; exact addN_self
          have dg := DGet.k (k := Sum.inl ((z : Nat) : Int)) h4
          rw [valV_dk] at dg
          refine ⟨_, rfl, _, rfl, D, _, rfl, dg, _, rfl, ?_⟩
          by_cases hm : z ∈ (adds (F, W') ([x, y].take i')).1
          · rw [if_pos hm]
            refine iteN (by decide) ?_
            rw [e1]
            rw [addN_in hm] at md2 me h3' ⊢
            exact ⟨_, rfl, h1, h2, md2, h3', h4, h5, Nat.le_trans me h6⟩
          · rw [if_neg hm]
            refine iteP (by decide) ?_
            refine ⟨_, rfl, _, rfl, D, _, rfl, DPut.k (k := Sum.inl ((z : Nat) : Int)) h4 (by rw [dk_len, sizeLine_eq]; have := nodup_lt md.nd fun k hk => (md.rch k hk).lt wf hS; omega), ?_⟩
            rw [dk_put hm]
            have h5' : upd H5 D (.dK (dk ((adds (F, W') ([x, y].take i')).1 ++ [z]))) L = some (.lst (natL (adds (F, W') ([x, y].take i')).2)) := by rw [upd_ne DL.symm]; exact h5
            refine ⟨_, rfl, Or.inl ⟨rfl, _, SqL.of h5'⟩, _, rfl, L, _, _, rfl, rfl, h5', ?_, ?_⟩
            · rw [natL_len, sizeLine_eq]
              have : (adds (F, W') ([x, y].take i')).2.length ≤ 2 * (ps.length - F.length) + W'.length := by omega
              rw [List.length_append, List.length_singleton] at hB
              omega
            · rw [e1]
              rw [addN_new hm] at md2 me h3' ⊢
              refine ⟨_, rfl, fun b o e => ?_, ?_, md2, h3', ?_, ?_, Nat.le_trans me h6⟩
              · rw [upd_ne (ne_of_none e hL0), upd_ne (ne_of_none e hD0)]; exact h1 _ _ e
              · rw [upd_ne sL, upd_ne sD]; exact h2
              · rw [upd_ne DL]; exact upd_same
              · rw [upd_same, natL_snoc]
        · rintro σ' H5 ⟨v6, rfl, h1, h2, md, h3, h4, h5, h6⟩
          refine close H5 _ _ _ (md.fw fun o' a' b' e => ?_) h1 h4 h5 h6
          rw [hpj] at e
          cases e
          exact ⟨h3 x (by simp), h3 y (by simp)⟩
  · rintro σ H3 Q1 Q2 hq ⟨v, e1, k1, e2, h⟩
    exact ⟨v, e1, k1, e2, hq _ _ h⟩
end
end My

/-! G -/
namespace My
open PySem L2
local macro_rules | `(tactic| walk_at "side") => `(tactic| first | with_reducible rfl | assumption | rfl | decide | omega | exact cpow1 (by omega) (by omega) | exact cdiv (by omega) (by omega) | exact two_pos _ | exact SqL.of (by assumption) | exact SqT.of (by assumption) | exact TyX.base (TyOf.int _) | exact TyX.base (TyOf.bl _) | exact TyX.base TyOf.non | exact scal_opt _ _ | exact k_ii | exact k_bi | exact k_ni | exact k_ib | exact k_bb | exact TyX.base (TyOf.lst (by assumption)) | exact k_ll | exact k_lt)
local macro_rules | `(tactic| walk_at "p") => `(tactic| repeat (first | refine And.intro (by walk_at "side") ?_ | apply Exists.intro | refine iteN (by assumption) ?_ | refine iteP (by assumption) ?_ | refine iteN (by decide) ?_ | refine iteP (by decide) ?_))

section
variable {P : Program} {w : World} {K : PySem.W.Frag} {mg : Str → Option Value} {base : Heap}
def sp_p_reached (T : Txt K mg) : Sp := fun vs H Q E => ∃ (a l d : Addr) (n : Nat) (ps : List Part) (x : V), vs = [.ref a, x] ∧ PoolAt T.C H a l d n ps ∧ plainV x = true ∧ WF ps ∧ ps.length ≤ 4000 ∧
  (∀ i : Nat, x = .int i → i < ps.length → ∀ (t : Addr) (H' : Hp) (ks : List Nat), ReachL ps i ks → Same H H' → H t = none → H' t = some (.tup (natL ks)) → Q (.ref t) H') ∧
  (¬ goodP ps.length x = true → E (.ref T.C_BadPart) none H)
theorem sp_p_reached_len {T : Txt K mg} {vs H Q E} (h : sp_p_reached T vs H Q E) : vs.length = 2 := by obtain ⟨_, _, _, _, _, _, rfl, _⟩ := h; rfl
theorem of_good {n : Nat} {x : V} (h : goodP n x = true) : ∃ i : Nat, x = .int i ∧ i < n := by
  cases x with
  | int j =>
    have := of_decide_eq_true h
    exact ⟨j.toNat, by congr 1; omega, by omega⟩
  | _ => cases h
theorem ok_p_reached (T : Txt K mg) : FnOk P w K mg base (L2.CX P w) 5 T.f_p_reached T.fd_p_reached ["self", "number"] (sp_p_reached T) := by
  have G_p_check_part := ok_p_check_part (P := P) (w := w) (base := base) T; have G_p_reached_by := ok_p_reached_by (P := P) (w := w) (base := base) T
  refine T.F_p_reached.okX sc_p_reached (fun vs H Q E h => sp_p_reached_len h) (fun cdv A outer s H vs Q E hr h => ?_)
  obtain ⟨a, l, d, n, ps, x, rfl, hp, hx, wf, h40, k1, k2⟩ := h
  obtain ⟨dx, ho⟩ := id hp.ob
  refine ⟨_, (pss_one (ps_ret (pe_meth (pv 0) T.cl T.m_p_reached_by G_p_reached_by hr T.b_p_reached_by .nil (passes_call (takes_of rfl rfl rfl rfl) (fun _ _ _ _ h => h)) (pa_cons (pe_lst (pa_cons (pe_meth (pv 0) T.cl T.m_p_check_part G_p_check_part (hr.mono (by decide)) T.b_p_check_part .nil (passes_call (takes_of rfl rfl rfl rfl) (fun _ _ _ _ h => h)) (pa_cons (pv 1) pa_nil)) pa_nil)) pa_nil)))), ?_⟩
  refine ⟨_, rfl, a, dx, _, rfl, ho, no_meth (by decide +kernel), _, rfl, a, dx, _, rfl, ho, no_meth (by decide +kernel), _, rfl, a, l, d, n, ps, x, rfl, hp, hx, fun g => ?_, fun g => k2 g⟩
  obtain ⟨i, rfl, hi⟩ := of_good g
  refine ⟨by show 1 ≤ sizeLine; decide, fun q hq => ?_⟩
  have s1 := same_new (o := .lst [.int (i : Nat)]) hq
  have gr : ∀ j ∈ [i], j < ps.length := fun j hj => by simp at hj; omega
  refine ⟨a, l, d, n, ps, .ref q, rfl, hp.news s1, wf, h40, .inr ⟨natL [i], ⟨q, rfl, .inl upd_same, plain_nat, by simp [natL]⟩, fun S eS hS t H' ks hr s2 ht ht' => ?_, fun z => absurd (goodR_of gr) z⟩⟩
  obtain rfl := natL_inj eS
  exact k1 i rfl hi t H' ks hr.one (s1.trans s2) (s1.free ht) ht'
def sp_p_gets (T : Txt K mg) : Sp := fun vs H Q _ => ∃ (a l d t : Addr) (n : Nat) (ps : List Part) (ks : List Nat), vs = [.ref a, .ref t] ∧ PoolAt T.C H a l d n ps ∧ H t = some (.tup (natL ks)) ∧ ks.length ≤ 4000 ∧ (∀ k ∈ ks, k < ps.length) ∧
  ∀ (u : Addr) (H' : Hp) (ns : List Int), ns.Perm (getsOf ps ks) → ns.Pairwise (· ≤ ·) → Same H H' → H u = none → H' u = some (.tup (ns.map V.int)) → Q (.ref u) H'
theorem sp_p_gets_len {T : Txt K mg} {vs H Q E} (h : sp_p_gets T vs H Q E) : vs.length = 2 := by obtain ⟨_, _, _, _, _, _, _, rfl, _⟩ := h; rfl
theorem op_ne_get (o : Op) : ¬ o.s = ("get" : Str) := by cases o <;> decide +kernel
theorem op_get_f (o : Op) : ¬ decide (V.str o.s = V.str "get") = true := fun z => op_ne_get o (by have z := of_decide_eq_true z; injection z)
theorem op_num_f (o : Op) : ¬ decide (V.str o.s = V.str "num") = true := fun z => op_ne_num o (by have z := of_decide_eq_true z; injection z)
theorem ok_p_gets (T : Txt K mg) : FnOk P w K mg base CX0 1 T.f_p_gets T.fd_p_gets ["self", "numbers"] (sp_p_gets T) := by
  skip
  refine T.F_p_gets.ok sc_p_gets (fun vs H Q E h => sp_p_gets_len h) (fun cdv A outer s H vs Q E hr h => ?_)
  obtain ⟨a, l, d, t, n, ps, ks, rfl, hp, ht, hz, hk, k⟩ := h
  obtain ⟨dx, ho⟩ := id hp.ob
  obtain ⟨xs, hL, ex, hit⟩ := hp.lst.item
  refine ⟨_, (pss_cons (ps_setLc (i := 2) (te := tOp (rIxL K) (tFld K (tVar 0) "_parts") (tVar 3)) (own := [("number", 3)]) (g := gName 3) (tt := tYes) rfl sc_p_gets.nd rfl rfl (sw_true rfl rfl rfl (by decide +kernel)) (pi_tup (pv 1)) (blkOk_by (N := ["self", "numbers", "parts", "number", "part"]) (sc := defScope s_p_gets) (by decide +kernel)) (fun _ _ _ _ _ => by exact pg_name (i := 3) sc_p_gets.nd rfl (Or.inl rfl)) (fun _ _ _ _ _ => by exact pts_nil) (fun _ _ _ _ _ => by exact (pe_ix ix_list (pe_fldA (pv 0)) (pv 3) (fun _ _ => rfl))))
       (pss_one (ps_ret (pe_callTy call_tupleL (by rfl) T.n_tuple (by decide +kernel) (pa_cons (pe_callB cr_sortedI (by rfl) T.n_sorted (by decide +kernel) (pa_cons (pe_lc (te := tOp (rIxT K) (tVar 4) (tC (.int 1))) (own := [("part", 4)]) (g := gName 4) (tt := (tTest (tOp rEq (tOp (rIxT K) (tVar 4) (tC (.int 0))) (tC (.str "get"))))) rfl sc_p_gets.nd (pi_list (pv 2)) (blkOk_by (N := ["self", "numbers", "parts", "number", "part"]) (sc := defScope s_p_gets) (by decide +kernel)) (fun _ _ _ _ _ => by exact pg_name (i := 4) sc_p_gets.nd rfl (Or.inl rfl)) (fun _ _ _ _ _ => by exact (pts_one (pt_cmpR op_eq (pe_ix ix_tup (pv 4) pe_int (fun _ _ => rfl)) pe_str (nomark _)))) (fun _ _ _ _ _ => by exact (pe_ix ix_tup (pv 4) pe_int (fun _ _ => rfl)))) pa_nil)) pa_nil))))), ?_⟩
  have sz : sizeLine = 16777216 := sizeLine_eq
  refine ⟨_, rfl, t, rfl, ⟨_, SqT.of ht⟩, fun D hD => ?_⟩
  refine lc_tup (K := K) (a := t) (xs := natL ks) (fun j H2 => Same H H2 ∧ ∃ ys : List V, H2 D = some (.lst ys) ∧ ys.length = j ∧ ∀ (i : Nat) (y : V), ys[i]? = some y → ∃ (k : Nat) (u : Addr) (p : Part), ks[i]? = some k ∧ y = V.ref u ∧ ps[k]? = some p ∧ H u = some (.tup p.vals)) ⟨same_new hD, [], upd_same, rfl, by simp⟩ (fun j H2 _ ⟨s2, _⟩ => SqT.of (s2 _ _ ht)) ?_ ?_
  · rintro j x H2 hj ⟨s2, ys, hys, hl, hy⟩
    obtain ⟨z, hzj, rfl⟩ := natL_get hj
    have hzk := List.mem_of_getElem? hzj
    have hjl := (List.getElem?_eq_some_iff.mp hzj).1
    obtain ⟨p, hp'⟩ : ∃ p, ps[z]? = some p := ⟨_, List.getElem?_eq_getElem (hk z hzk)⟩
    obtain ⟨u, hu, hU⟩ := hit z p hp'
    refine ⟨rfl, yesT (iteP rfl ?_)⟩
    refine ⟨_, rfl, a, T.C, dx, _, _, rfl, s2 _ _ ho, T.cl, T.nA__parts, look_parts _ _ _, _, rfl, l, xs, _, _, rfl, rfl, SqL.of (s2 _ _ hL), at_of rfl hu, ?_⟩
    refine ⟨ys, hys, by omega, fun b o e => ?_, ys ++ [.ref u], upd_same, by simp [hl], fun i y e => ?_⟩
    · rw [upd_ne (ne_of_none e hD)]; exact s2 _ _ e
    · by_cases hi : i < ys.length
      · rw [List.getElem?_append_left hi] at e; exact hy i y e
      · have := (List.getElem?_eq_some_iff.mp e).1
        rw [List.length_append, List.length_singleton] at this
        have ei : i = ys.length := by omega
        subst ei
        rw [List.getElem?_append_right (Nat.le_refl _), Nat.sub_self] at e
        cases e
        exact ⟨z, u, p, by rw [hl]; exact hzj, rfl, hp', hU⟩
  rintro H2 ⟨s2, ys, hys, hl, hy⟩
  rw [natL_len] at hl
  -- tuple(sorted([part[1] for part in parts if part[0] == "get"]))
  refine ⟨_, rfl, D, rfl, ⟨_, SqL.of hys⟩, fun G hG => ?_⟩
  refine lc_list (K := K) (a := D) (xs := ys) (fun j H3 => Same H2 H3 ∧ H3 G = some (.lst ((getsOf ps (ks.take j)).map V.int)) ∧ (getsOf ps (ks.take j)).length ≤ j) ⟨same_new hG, upd_same, Nat.le_refl _⟩ (fun j H3 _ ⟨s3, _⟩ => SqL.of (s3 _ _ hys)) ?_ ?_
  · rintro j x H3 hj ⟨s3, hns, hl3⟩
    obtain ⟨z, u, p, hz', rfl, hp', hU⟩ := hy j x hj
    have hjl := (List.getElem?_eq_some_iff.mp hj).1
    have hU3 := s3 _ _ (s2 _ _ hU)
    have et : getsOf ps (ks.take (j + 1)) = getsOf ps (ks.take j) ++ (getAt ps z).toList := by rw [List.take_add_one, hz']; exact getsOf_snoc _ _ _
    cases p with
    | num v =>
      rw [getAt_num hp', Option.toList_none, List.append_nil] at et
      exact ⟨rfl, _, rfl, u, _, 0, _, rfl, rfl, SqT.of hU3, rfl, rfl, _, rfl, iteN (by decide) ⟨s3, by rw [et]; exact hns, by rw [et]; omega⟩⟩
    | op o x y =>
      rw [getAt_op hp', Option.toList_none, List.append_nil] at et
      exact ⟨rfl, _, rfl, u, _, 0, _, rfl, rfl, SqT.of hU3, rfl, rfl, _, rfl, iteN (op_get_f o) ⟨s3, by rw [et]; exact hns, by rw [et]; omega⟩⟩
    | get v =>
      rw [getAt_get hp', Option.toList_some] at et
      refine ⟨rfl, _, rfl, u, _, 0, _, rfl, rfl, SqT.of hU3, rfl, rfl, _, rfl, iteP (by decide) ?_⟩
      refine ⟨_, rfl, u, _, 1, _, rfl, rfl, SqT.of hU3, rfl, ?_⟩
      refine ⟨_, hns, by rw [List.length_map]; omega, fun b o e => ?_, by rw [upd_same, et, List.map_append]; rfl, by rw [et]; simp; omega⟩
      rw [upd_ne (ne_of_none e hG)]; exact s3 _ _ e
  rintro H3 ⟨s3, hns, hl3⟩
  rw [hl, List.take_length] at hns
  refine ⟨G, _, rfl, SqL.of hns, fun ns' p hperm hsort hpn => ?_⟩
  refine ⟨p, _, rfl, SqL.of upd_same, fun u hu => ?_⟩
  have s4 := ((s2.trans s3).trans (same_new (o := .lst (ns'.map V.int)) hpn)).trans (same_new (o := .tup (ns'.map V.int)) hu)
  exact k u _ ns' hperm hsort s4 (((s2.trans s3).trans (same_new hpn)).free hu) upd_same
def sp_p_unknowns (T : Txt K mg) : Sp := fun vs H Q E => ∃ (a l d : Addr) (n : Nat) (ps : List Part) (q : Addr) (S : List Nat), vs = [.ref a, .ref q] ∧ PoolAt T.C H a l d n ps ∧ WF ps ∧ ps.length ≤ 4000 ∧ Row H q (natL S) ∧ S.length ≤ 4000 ∧ (∀ i ∈ S, i < ps.length) ∧
  ∀ (u : Addr) (H' : Hp) (ks : List Nat) (ns : List Int), ReachLS ps S ks → ns.Perm (getsOf ps ks) → ns.Pairwise (· ≤ ·) → Same H H' → H u = none → H' u = some (.tup (ns.map V.int)) → Q (.ref u) H'
theorem sp_p_unknowns_len {T : Txt K mg} {vs H Q E} (h : sp_p_unknowns T vs H Q E) : vs.length = 2 := by obtain ⟨_, _, _, _, _, _, _, rfl, _⟩ := h; rfl
theorem ok_p_unknowns (T : Txt K mg) : FnOk P w K mg base (L2.CX P w) 5 T.f_p_unknowns T.fd_p_unknowns ["self", "numbers"] (sp_p_unknowns T) := by
  have G_p_gets := ok_p_gets (P := P) (w := w) (base := base) T; have G_p_reached_by := ok_p_reached_by (P := P) (w := w) (base := base) T
  refine T.F_p_unknowns.okX sc_p_unknowns (fun vs H Q E h => sp_p_unknowns_len h) (fun cdv A outer s H vs Q E hr h => ?_)
  obtain ⟨a, l, d, n, ps, q, S, rfl, hp, wf, h40, hrow, hSl, hS, k⟩ := h
  obtain ⟨dx, ho⟩ := id hp.ob
  refine ⟨_, (pss_one (ps_ret (pe_meth (pv 0) T.cl T.m_p_gets G_p_gets (hr.mono (by decide)) T.b_p_gets .nil pass0 (pa_cons (pe_meth (pv 0) T.cl T.m_p_reached_by G_p_reached_by hr T.b_p_reached_by .nil (passes_call (takes_of rfl rfl rfl rfl) (fun _ _ _ _ h => h)) (pa_cons (pv 1) pa_nil)) pa_nil)))), ?_⟩
  refine ⟨_, rfl, a, dx, _, rfl, ho, no_meth (by decide +kernel), _, rfl, a, dx, _, rfl, ho, no_meth (by decide +kernel), _, rfl, a, l, d, n, ps, .ref q, rfl, hp, wf, h40, .inr ⟨natL S, ⟨q, rfl, hrow, plain_nat, by rw [natL_len]; exact hSl⟩, fun S' eS hS' t H1 ks hks s1 ht ht1 => ?_, fun z => absurd (goodR_of hS) z⟩⟩
  obtain rfl := natL_inj eS
  have kl := hks.len wf hS
  refine ⟨a, l, d, t, n, ps, ks, rfl, hp.news s1, ht1, by omega, fun k hk => ((hks.mem k).mp hk).lt wf hS, fun u H2 ns hpm hso s2 hu hu2 => ?_⟩
  exact k u H2 ks ns hks hpm hso (s1.trans s2) (s1.free hu) hu2
end
end My

/-! J -/
namespace My
open PySem L2
local macro_rules | `(tactic| walk_at "side") => `(tactic| first | with_reducible rfl | assumption | rfl | decide | omega | exact cpow1 (by omega) (by omega) | exact cdiv (by omega) (by omega) | exact two_pos _ | exact SqL.of (by assumption) | exact SqT.of (by assumption) | exact TyX.base (TyOf.int _) | exact TyX.base (TyOf.bl _) | exact TyX.base TyOf.non | exact scal_opt _ _ | exact k_ii | exact k_bi | exact k_ni | exact k_ib | exact k_bb | exact TyX.base (TyOf.lst (by assumption)) | exact k_ll | exact k_lt)
local macro_rules | `(tactic| walk_at "p") => `(tactic| repeat (first | refine And.intro (by walk_at "side") ?_ | apply Exists.intro | refine iteN (by assumption) ?_ | refine iteP (by assumption) ?_ | refine iteN (by decide) ?_ | refine iteP (by decide) ?_))

section
variable {P : Program} {w : World} {K : PySem.W.Frag} {mg : Str → Option Value} {base : Heap}
theorem Row.sq {H : Hp} {q : Addr} {xs : List V} (h : Row H q xs) : SqL K H q xs ∨ SqT K H q xs := h.elim (fun z => .inl (SqL.of z)) fun z => .inr (SqT.of z)
theorem rowIx {H : Hp} {q : Addr} {xs : List V} {i : Int} {v : V} {Q : VK} (h : Row H q xs) (e : atI xs i = some v) (k : Q v H) : rIx K (.ref q) (.int i) H Q :=
  h.elim (fun z => .inl ⟨_, _, _, _, rfl, rfl, SqL.of z, e, k⟩) fun z => .inr (.inl ⟨_, _, _, _, rfl, rfl, SqT.of z, e, k⟩)
def sp_p_value (T : Txt K mg) : Sp := fun vs H Q _ => ∃ (a l d q : Addr) (n : Nat) (ps : List Part) (i : Nat) (ws : List Int), vs = [.ref a, .int i, .ref q] ∧ PoolAt T.C H a l d n ps ∧ Ok n ps ∧ ps.length ≤ 4000 ∧ n ≤ 12 ∧ i < ps.length ∧ Row H q (ws.map V.int) ∧
  (∀ x ∈ ws, 0 ≤ x ∧ x < 2 ^ n) ∧ (∀ (k : Nat) (g : Int), ps[k]? = some (Part.get g) → g < ws.length) ∧ ∀ H', Same H H' → Q (.int (evAt n (envOf ws) ps i)) H'
theorem sp_p_value_len {T : Txt K mg} {vs H Q E} (h : sp_p_value T vs H Q E) : vs.length = 3 := by obtain ⟨_, _, _, _, _, _, _, _, rfl, _⟩ := h; rfl
theorem ok_p_value (T : Txt K mg) : FnOk P w K mg base (L2.CX P w) 6 T.f_p_value T.fd_p_value ["self", "number", "words"] (sp_p_value T) := by
  have G_p_gets := ok_p_gets (P := P) (w := w) (base := base) T; have G_p_reached := ok_p_reached (P := P) (w := w) (base := base) T; have G_is_int := ok_is_int (P := P) (w := w) (base := base) T; have G_is_row := ok_is_row (P := P) (w := w) (base := base) T; have G_op_word := ok_op_word (P := P) (w := w) (base := base) T
  refine T.F_p_value.okX sc_p_value (fun vs H Q E h => sp_p_value_len h) (fun cdv A outer s H vs Q E hr h => ?_)
  obtain ⟨a, l, d, q, n, ps, i, ws, rfl, hp, ok1, h40, hn, hi, hq, hw, hg, k⟩ := h
  obtain ⟨dx, ho⟩ := id hp.ob
  obtain ⟨xs, hL, ex, hit⟩ := hp.lst.item
  refine ⟨_, (pss_cons (ps_set (i := 3) sc_p_value.nd rfl (Or.inl rfl) (pe_meth (pv 0) T.cl T.m_p_reached G_p_reached hr T.b_p_reached .nil (passes_call (takes_of rfl rfl rfl rfl) (fun _ _ _ _ h => h)) (pa_cons (pv 1) pa_nil)))
       (pss_cons (ps_if (pt_not (pt_val (pe_call G_is_row (hr.mono (by decide)) rfl T.g_is_row T.F_is_row.kp T.b_is_row .nil pass0 (pa_cons (pv 2) pa_nil))))
        (pss_one ps_never)
        pss_nil)
       (pss_cons (ps_for (passes_of rfl) rfl (pi_tup (pe_meth (pv 0) T.cl T.m_p_gets G_p_gets (hr.mono (by decide)) T.b_p_gets .nil pass0 (pa_cons (pv 3) pa_nil))) (pg_name (i := 4) sc_p_value.nd rfl (Or.inl rfl))
        (pss_one (ps_if (PW.pt (pw_or (pt_cmpR op_ge (pv 4) (pe_callB call_len_seq (by rfl) T.n_len (by decide +kernel) (pa_cons (pv 2) pa_nil)) (nomark _)) (pw_or (pt_not (pt_val (pe_call G_is_int (hr.mono (by decide)) rfl T.g_is_int T.F_is_int.kp T.b_is_int .nil pass0 (pa_cons (pe_ix ix_seq (pv 2) (pv 4) (fun _ _ => rfl)) pa_nil)))) (pw_or (pt_cmpR op_lt (pe_ix ix_seq (pv 2) (pv 4) (fun _ _ => rfl)) pe_int (nomark _)) (pw_or1 (pt_cmpR op_gt (pe_ix ix_seq (pv 2) (pv 4) (fun _ _ => rfl)) (pe_fldA (pv 0)) (nomark _)))))))
        (pss_one ps_never)
        pss_nil)))
       (pss_cons (ps_set (i := 5) sc_p_value.nd rfl (Or.inl rfl) pe_dnewK)
       (pss_cons (ps_for (passes_of rfl) rfl (pi_tup (pv 3)) (pg_name (i := 6) sc_p_value.nd rfl (Or.inl rfl))
        (pss_cons (ps_set (i := 7) sc_p_value.nd rfl (Or.inl rfl) (pe_ix ix_list (pe_fldA (pv 0)) (pv 6) (fun _ _ => rfl)))
       (pss_one (ps_if (pt_cmpR op_eq (pe_ix ix_tup (pv 7) pe_int (fun _ _ => rfl)) pe_str (nomark _))
        (pss_one (ps_dput (hu_of hr) (pv 5) (pv 6) (pe_ix ix_tup (pv 7) pe_int (fun _ _ => rfl)) rfl))
        (pss_one (ps_if (pt_cmpR op_eq (pe_ix ix_tup (pv 7) pe_int (fun _ _ => rfl)) pe_str (nomark _))
        (pss_one (ps_dput (hu_of hr) (pv 5) (pv 6) (pe_ix ix_seq (pv 2) (pe_ix ix_tup (pv 7) pe_int (fun _ _ => rfl)) (fun _ _ => rfl)) rfl))
        (pss_one (ps_dput (hu_of hr) (pv 5) (pv 6) (pe_call G_op_word (hr.mono (by decide)) rfl T.g_op_word T.F_op_word.kp T.b_op_word .nil pass0 (pa_cons (pe_ix ix_tup (pv 7) pe_int (fun _ _ => rfl)) (pa_cons (pe_dget (hu_of hr) (pv 5) (pe_ix ix_tup (pv 7) pe_int (fun _ _ => rfl)) (fun _ _ => rfl)) (pa_cons (pe_dget (hu_of hr) (pv 5) (pe_ix ix_tup (pv 7) pe_int (fun _ _ => rfl)) (fun _ _ => rfl)) (pa_cons (pe_fldA (pv 0)) pa_nil))))) rfl))))))))
       (pss_one (ps_ret (pe_dget (hu_of hr) (pv 5) (pv 1) (fun _ _ => rfl))))))))), ?_⟩
  refine ⟨_, rfl, a, dx, _, rfl, ho, no_meth (by decide +kernel), _, rfl, a, l, d, n, ps, _, rfl, hp, rfl, ok1.wf, h40, fun i' ei _ t H1 ks hr s1 ht ht1 => ?_, fun z => absurd (good_of hi) z⟩
  have ei' : i = i' := by injection ei with ei; omega
  subst ei'
  have ksl : ks.length ≤ ps.length := nodup_lt (hr.asc.imp fun h => Nat.ne_of_lt h) fun k hk => by have := ((hr.mem k).mp hk).le ok1.wf; omega
  have sz : sizeLine = 16777216 := sizeLine_eq
  -- if not is_row(words): raise
  refine ⟨_, rfl, .inl ⟨q, _, rfl, hq.news s1, fun H2 s2 => ⟨_, rfl, iteN (by decide) ?_⟩⟩⟩
  have s12 := s1.trans s2
  -- for i in self._gets(numbers): ..
  refine ⟨_, rfl, a, dx, _, rfl, s12 _ _ ho, no_meth (by decide +kernel), _, rfl, a, l, d, t, n, ps, ks, rfl, hp.news s12, s2 _ _ ht1, by omega, fun k hk => (by have := ((hr.mem k).mp hk).le ok1.wf; omega), fun u H3 ns hns0 _ s3 hu hu3 => ?_⟩
  have s13 := s12.trans s3
  have hns : ∀ i ∈ ns, ∃ k ∈ ks, ps[k]? = some (Part.get i) := fun i hi => mem_gets (hns0.mem_iff.mp hi)
  refine ⟨u, rfl, ⟨_, SqT.of hu3⟩, ?_⟩
  refine for_tup (K := K) (a := u) (xs := ns.map V.int) (fun j σ' H4 => H4 = H3 ∧ ∃ v4 : Option V, σ' = [some (.ref a), some (.int (i : Nat)), some (.ref q), some (.ref t), v4, none, none, none]) ⟨rfl, none, rfl⟩ (fun j σ' H4 _ ⟨e, _⟩ => by rw [e]; exact SqT.of hu3) ?_ ?_
  · rintro j y σ' H4 hj ⟨rfl, v4, rfl⟩
    rw [List.getElem?_map] at hj
    obtain ⟨g, hgj, rfl⟩ := Option.map_eq_some_iff.mp hj
    obtain ⟨z, hz, hpz⟩ := hns g (List.mem_of_getElem? hgj)
    have g0 := (ok1.get _ _ hpz).1
    have gl := hg _ _ hpz
    obtain ⟨x, hx⟩ : ∃ x, ws[g.toNat]? = some x := ⟨_, List.getElem?_eq_getElem (by omega)⟩
    have hx2 := hw x (List.mem_of_getElem? hx)
    have hq4 := hq.news s13
    have hat : atI (ws.map V.int) g = some (.int x) := at_of (j := g.toNat) (by omega) (by rw [List.getElem?_map, hx]; rfl)
    refine ⟨_, rfl, _, rfl, q, _, rfl, hq4.sq, _, _, rfl, rfl, _, rfl, iteN (dF (by rw [List.length_map]; omega)) ?_⟩
    refine ⟨_, rfl, _, rfl, rowIx hq4 hat ⟨_, rfl, rfl, _, rfl, iteN (by show ¬ (!true) = true; decide) ?_⟩⟩
    refine ⟨_, rfl, _, rfl, rowIx hq4 hat ⟨_, _, rfl, rfl, _, rfl, iteN (dF (by omega)) ?_⟩⟩
    refine ⟨_, rfl, _, rfl, rowIx hq4 hat ⟨_, rfl, a, T.C, dx, _, _, rfl, s13 _ _ ho, T.cl, T.nA__most, look_most _ _ _, _, _, rfl, rfl, _, rfl, iteN (dF (by omega)) ?_⟩⟩
    exact ⟨rfl, _, rfl⟩
  rintro σ' H4 ⟨rfl, v4, rfl⟩
  -- found = {}
  intro D hD
  have hD0 : H D = none := s13.free hD
  have tD : t ≠ D := ne_of_none (s3 _ _ (s2 _ _ ht1)) hD
  have s4 : Same H (upd H4 D (.dK [])) := s13.trans (same_new hD)
  refine ⟨_, rfl, t, rfl, ⟨_, SqT.of (by rw [upd_ne tD]; exact s3 _ _ (s2 _ _ ht1))⟩, ?_⟩
  refine for_tup (K := K) (a := t) (xs := natL ks) (fun j σ' H5 => ∃ v6 v7 : Option V, σ' = [some (.ref a), some (.int (i : Nat)), some (.ref q), some (.ref t), v4, some (.ref D), v6, v7] ∧ Same H H5 ∧
    H5 t = some (.tup (natL ks)) ∧ H5 D = some (.dK (dv (evAt n (envOf ws) ps) (ks.take j)))) ?_ ?_ ?_ ?_
  · exact ⟨none, none, rfl, s4, by rw [upd_ne tD]; exact s3 _ _ (s2 _ _ ht1), upd_same⟩
  · rintro j σ' H5 _ ⟨_, _, _, _, h, _⟩
    exact SqT.of h
  · rintro j y σ' H5 hj ⟨v6, v7, rfl, s5, hT5, hD5⟩
    obtain ⟨k', hkj, rfl⟩ := natL_get hj
    have hk0 := List.mem_of_getElem? hkj
    have hkr := (hr.mem k').mp hk0
    have hkn : k' < ps.length := by have := hkr.le ok1.wf; omega
    obtain ⟨p, hpk⟩ : ∃ p, ps[k']? = some p := ⟨_, List.getElem?_eq_getElem hkn⟩
    obtain ⟨t7, ht7, hT7⟩ := hit k' p hpk
    have ev := evAt_eq (w := n) (env := envOf ws) ok1.wf hpk
    have hz : (dv (evAt n (envOf ws) ps) (ks.take j)).length < sizeLine := by rw [dv_len, List.length_take]; omega
    have hT7' := s5 _ _ hT7
    have close : ∀ v6 v7 : Option V, ∃ v6' v7' : Option V, [some (V.ref a), some (.int (i : Nat)), some (.ref q), some (.ref t), v4, some (.ref D), v6, v7] = [some (V.ref a), some (.int (i : Nat)), some (.ref q), some (.ref t), v4, some (.ref D), v6', v7'] ∧
        Same H (upd H5 D (.dK (putK (dv (evAt n (envOf ws) ps) (ks.take j)) (Sum.inl ((k' : Nat) : Int)) (.int (evAt n (envOf ws) ps k'))))) ∧
        upd H5 D (.dK (putK (dv (evAt n (envOf ws) ps) (ks.take j)) (Sum.inl ((k' : Nat) : Int)) (.int (evAt n (envOf ws) ps k')))) t = some (.tup (natL ks)) ∧
        upd H5 D (.dK (putK (dv (evAt n (envOf ws) ps) (ks.take j)) (Sum.inl ((k' : Nat) : Int)) (.int (evAt n (envOf ws) ps k')))) D = some (.dK (dv (evAt n (envOf ws) ps) (ks.take (j + 1)))) := by
      intro v6 v7
      refine ⟨v6, v7, rfl, fun b o e => ?_, ?_, ?_⟩
      · rw [upd_ne (ne_of_none e hD0)]; exact s5 _ _ e
      · rw [upd_ne tD]; exact hT5
      · rw [upd_same, dv_put (not_in_take hr.asc hkj), take_snoc hkj]
    have getf : ∀ z, z ∈ ks.take j → DGet H5 D (.int (z : Nat)) (some (.int (evAt n (envOf ws) ps z))) := fun z hz => by
      have dg := DGet.k (k := Sum.inl ((z : Nat) : Int)) hD5
      rw [valV_dv, if_pos hz] at dg
      exact dg
    refine ⟨_, rfl, a, T.C, dx, _, _, rfl, s5 _ _ ho, T.cl, T.nA__parts, look_parts _ _ _, _, rfl, l, xs, _, _, rfl, rfl, SqL.of (s5 _ _ hL), at_of rfl ht7, ?_⟩
    cases p with
    | num v =>
      refine ⟨_, rfl, t7, _, 0, _, rfl, rfl, SqT.of hT7', rfl, rfl, _, rfl, iteP (by decide) ?_⟩
      refine ⟨_, rfl, t7, _, 1, .int v, rfl, rfl, SqT.of hT7', rfl, _, rfl, _, rfl, D, _, rfl, DPut.k (k := Sum.inl ((k' : Nat) : Int)) hD5 hz, ?_⟩
      have ev : evAt n (envOf ws) ps k' = v := ev
      have := close (some (.int (k' : Nat))) (some (.ref t7))
      rw [ev] at this
      exact this
    | get g =>
      have gl := hg _ _ hpk
      have g0 := (ok1.get _ _ hpk).1
      obtain ⟨x, hx⟩ : ∃ x, ws[g.toNat]? = some x := ⟨_, List.getElem?_eq_getElem (by omega)⟩
      refine ⟨_, rfl, t7, _, 0, _, rfl, rfl, SqT.of hT7', rfl, rfl, _, rfl, iteN (by decide) ?_⟩
      refine ⟨_, rfl, t7, _, 0, _, rfl, rfl, SqT.of hT7', rfl, rfl, _, rfl, iteP (by decide) ?_⟩
      refine ⟨_, rfl, _, rfl, t7, _, 1, .int g, rfl, rfl, SqT.of hT7', rfl, rowIx (hq.news s5) (at_of (v := .int x) (j := g.toNat) (by omega) (by rw [List.getElem?_map, hx]; rfl)) ⟨_, rfl, _, rfl, D, _, rfl, DPut.k (k := Sum.inl ((k' : Nat) : Int)) hD5 hz, ?_⟩⟩
      have ev : evAt n (envOf ws) ps k' = x := by rw [ev]; show ws.getD g.toNat 0 = x; rw [List.getD_eq_getElem?_getD, hx]; rfl
      have := close (some (.int (k' : Nat))) (some (.ref t7))
      rw [ev] at this
      exact this
    | op o x y =>
      have wfp := ok1.wf _ _ _ _ hpk
      have hx' := asc_take hr.asc hkj ((hr.mem x).mpr (.left hkr hpk)) wfp.1
      have hy' := asc_take hr.asc hkj ((hr.mem y).mpr (.right hkr hpk)) wfp.2
      refine ⟨_, rfl, t7, _, 0, _, rfl, rfl, SqT.of hT7', rfl, rfl, _, rfl, iteN (op_num_f o) ?_⟩
      refine ⟨_, rfl, t7, _, 0, _, rfl, rfl, SqT.of hT7', rfl, rfl, _, rfl, iteN (op_get_f o) ?_⟩
      refine ⟨_, rfl, t7, _, 0, .str o.s, rfl, rfl, SqT.of hT7', rfl, _, rfl, _, rfl, t7, _, 1, .int (x : Nat), rfl, rfl, SqT.of hT7', rfl, D, _, rfl, getf x hx', _, rfl, _, rfl, t7, _, 2, .int (y : Nat), rfl, rfl, SqT.of hT7', rfl, D, _, rfl, getf y hy',
        _, rfl, a, T.C, dx, _, _, rfl, s5 _ _ ho, T.cl, T.nA_width, look_width _ _ _, o, _, _, n, rfl, hn, ?_⟩
      refine ⟨_, rfl, _, rfl, D, _, rfl, DPut.k (k := Sum.inl ((k' : Nat) : Int)) hD5 hz, ?_⟩
      have ev : evAt n (envOf ws) ps k' = opI n o (evAt n (envOf ws) ps x) (evAt n (envOf ws) ps y) := ev
      have := close (some (.int (k' : Nat))) (some (.ref t7))
      rw [ev] at this
      exact this
  · rintro σ' H5 ⟨v6, v7, rfl, s5, hT5, hD5⟩
    rw [natL_len, List.take_length] at hD5
    have dg := DGet.k (k := Sum.inl ((i : Nat) : Int)) hD5
    rw [valV_dv, if_pos ((hr.mem i).mpr .self)] at dg
    exact ⟨_, rfl, _, rfl, D, _, rfl, dg, k H5 s5⟩
end
end My

/-! I -/
namespace My
open PySem L2
local macro_rules | `(tactic| walk_at "side") => `(tactic| first | with_reducible rfl | assumption | rfl | decide | omega | exact cpow1 (by omega) (by omega) | exact cdiv (by omega) (by omega) | exact two_pos _ | exact SqL.of (by assumption) | exact SqT.of (by assumption) | exact TyX.base (TyOf.int _) | exact TyX.base (TyOf.bl _) | exact TyX.base TyOf.non | exact scal_opt _ _ | exact k_ii | exact k_bi | exact k_ni | exact k_ib | exact k_bb | exact TyX.base (TyOf.lst (by assumption)) | exact k_ll | exact k_lt)
local macro_rules | `(tactic| walk_at "p") => `(tactic| repeat (first | refine And.intro (by walk_at "side") ?_ | apply Exists.intro | refine iteN (by assumption) ?_ | refine iteP (by assumption) ?_ | refine iteN (by decide) ?_ | refine iteP (by decide) ?_))

section
variable {P : Program} {w : World} {K : PySem.W.Frag} {mg : Str → Option Value} {base : Heap}
theorem PoolAt.updK {C : Addr} {H : Hp} {a l d D : Addr} {n : Nat} {ps : List Part} {kvs kvs' : List (Key × V)} (h : PoolAt C H a l d n ps) (hD : H D = some (.dK kvs)) : PoolAt C (upd H D (.dK kvs')) a l d n ps := by
  obtain ⟨dx, ho⟩ := id h.ob
  obtain ⟨ts, hl, _⟩ := id h.lst
  refine h.keep (S := fun b => b = D) (fun b o e hb => by rw [upd_ne hb]; exact e) (ne_of ho hD (by intro z; cases z)) (ne_of hl hD (by intro z; cases z)) (ne_of h.dic hD (by intro z; cases z)) fun t xs e => ne_of e hD (by intro z; cases z)
theorem pre_at {ps qs : List Part} (h : ps <+: qs) {k : Nat} {p : Part} (e : ps[k]? = some p) : qs[k]? = some p := by
  obtain ⟨t, rfl⟩ := h
  rw [List.getElem?_append_left (List.getElem?_eq_some_iff.mp e).1]; exact e
def sp_put_in (T : Txt K mg) : Sp := fun vs H Q E => ∃ (a l d : Addr) (n u : Nat) (ps : List Part) (x v : V), vs = [.ref a, x, v] ∧ PoolAt T.C H a l d n ps ∧ Rows n u false ps ∧ ps.length ≤ 1900 ∧ 1 ≤ n ∧ n ≤ 12 ∧ plainV x = true ∧
  (¬ goodP ps.length x = true → E (.ref T.C_BadPart) none H) ∧
  (∀ i : Nat, x = .int i → i < ps.length → (plainV v = true ∧ ∀ H', Same H H' → E (.ref T.C_BadPart) none H') ∨
    ∃ xs, RowIs H v xs ∧ (¬ goodR ps.length xs = true → ∀ H', Same H H' → E (.ref T.C_BadPart) none H') ∧
      ∀ pl : List Nat, xs = natL pl → (∀ j ∈ pl, j < ps.length) → ∀ (H' : Hp) (ks : List Nat), ReachL ps i ks → FInv n u ps pl ks (mFill n ps pl ks) → PoolAt T.C H' a l d n (mFill n ps pl ks).1 → (∀ b o, H b = some o → b ≠ l → b ≠ d → H' b = some o) → Q (.int (look (mFill n ps pl ks).2 i : Nat)) H')
theorem sp_put_in_len {T : Txt K mg} {vs H Q E} (h : sp_put_in T vs H Q E) : vs.length = 3 := by obtain ⟨_, _, _, _, _, _, _, _, rfl, _⟩ := h; rfl
theorem ok_put_in (T : Txt K mg) : FnOk P w K mg base (L2.CX P w) 6 T.f_put_in T.fd_put_in ["pool", "part", "parts"] (sp_put_in T) := by
  have G_p_apply := ok_p_apply (P := P) (w := w) (base := base) T; have G_p_check_parts := ok_p_check_parts (P := P) (w := w) (base := base) T; have G_p_part := ok_p_part (P := P) (w := w) (base := base) T; have G_p_reached := ok_p_reached (P := P) (w := w) (base := base) T
  refine T.F_put_in.okX sc_put_in (fun vs H Q E h => sp_put_in_len h) (fun cdv A outer s H vs Q E hr h => ?_)
  obtain ⟨a, l, d, n, u, ps, x, v, rfl, hp, ro, h19, n1, n12, hx, kx, h⟩ := h
  obtain ⟨dx, ho⟩ := id hp.ob
  obtain ⟨tsl, hLl, _⟩ := id hp.lst
  have sz : sizeLine = 16777216 := sizeLine_eq
  refine ⟨_, (pss_cons (ps_set (i := 3) sc_put_in.nd rfl (Or.inl rfl) (pe_meth (pv 0) T.cl T.m_p_reached G_p_reached hr T.b_p_reached .nil (passes_call (takes_of rfl rfl rfl rfl) (fun _ _ _ _ h => h)) (pa_cons (pv 1) pa_nil)))
       (pss_cons (ps_set (i := 4) sc_put_in.nd rfl (Or.inl rfl) (pe_meth (pv 0) T.cl T.m_p_check_parts G_p_check_parts (hr.mono (by decide)) T.b_p_check_parts .nil (passes_call (takes_of rfl rfl rfl rfl) (fun _ _ _ _ h => h)) (pa_cons (pv 2) pa_nil)))
       (pss_cons (ps_set (i := 5) sc_put_in.nd rfl (Or.inl rfl) pe_dnewK)
       (pss_cons (ps_for (passes_of rfl) rfl (pi_tup (pv 3)) (pg_name (i := 6) sc_put_in.nd rfl (Or.inl rfl))
        (pss_cons (ps_set (i := 7) sc_put_in.nd rfl (Or.inl rfl) (pe_meth (pv 0) T.cl T.m_p_part G_p_part (hr.mono (by decide)) T.b_p_part .nil (passes_call (takes_of rfl rfl rfl rfl) (fun _ _ _ _ h => h)) (pa_cons (pv 6) pa_nil)))
       (pss_one (ps_if (pt_cmpR op_eq (pe_callB call_lenT (by rfl) T.n_len (by decide +kernel) (pa_cons (pv 7) pa_nil)) pe_int (nomark _))
        (pss_one (ps_dput (hu_of hr) (pv 5) (pv 6) (pe_meth (pv 0) T.cl T.m_p_apply G_p_apply (hr.mono (by decide)) T.b_p_apply .nil (passes_call (takes_of rfl rfl rfl rfl) (fun _ _ _ _ h => h)) (pa_cons (pe_ix ix_tup (pv 7) pe_int (fun _ _ => rfl)) (pa_cons (pe_dget (hu_of hr) (pv 5) (pe_ix ix_tup (pv 7) pe_int (fun _ _ => rfl)) (fun _ _ => rfl)) (pa_cons (pe_dget (hu_of hr) (pv 5) (pe_ix ix_tup (pv 7) pe_int (fun _ _ => rfl)) (fun _ _ => rfl)) pa_nil)))) rfl))
        (pss_one (ps_if (PW.pt (pw_and (pt_cmpR op_eq (pe_ix ix_tup (pv 7) pe_int (fun _ _ => rfl)) pe_str (nomark _)) (pw_and1 (pt_cmpR op_lt (pe_ix ix_tup (pv 7) pe_int (fun _ _ => rfl)) (pe_callB call_lenT (by rfl) T.n_len (by decide +kernel) (pa_cons (pv 4) pa_nil)) (nomark _)))))
        (pss_one (ps_dput (hu_of hr) (pv 5) (pv 6) (pe_ix ix_tup (pv 4) (pe_ix ix_tup (pv 7) pe_int (fun _ _ => rfl)) (fun _ _ => rfl)) rfl))
        (pss_one (ps_dput (hu_of hr) (pv 5) (pv 6) (pv 6) rfl))))))))
       (pss_one (ps_ret (pe_dget (hu_of hr) (pv 5) (pv 1) (fun _ _ => rfl)))))))), ?_⟩
  refine ⟨_, rfl, a, dx, _, rfl, ho, no_meth (by decide +kernel), _, rfl, a, l, d, n, ps, x, rfl, hp, hx, ro.ok.wf, by omega, fun i ei hi t H1 ks hr s1 ht ht1 => ?_, fun g => kx g⟩
  subst ei
  have h := h i rfl hi
  clear kx
  have ho1 := s1 _ _ ho
  rcases h with ⟨hv, k⟩ | ⟨xs, hR, k2, k1⟩
  · exact ⟨_, rfl, a, dx, _, rfl, ho1, no_meth (by decide +kernel), _, rfl, a, l, d, n, ps, v, rfl, hp.news s1, .inl ⟨hv, fun H' s => k H' (s1.trans s)⟩⟩
  obtain ⟨q, rfl, hrow, hpx, hz4⟩ := id hR
  refine ⟨_, rfl, a, dx, _, rfl, ho1, no_meth (by decide +kernel), _, rfl, a, l, d, n, ps, .ref q, rfl, hp.news s1, .inr ⟨xs, ⟨q, rfl, hrow.news s1, hpx, hz4⟩, fun g u' H2 s2 hu hu2 => ?_, fun g H' s => k2 g H' (s1.trans s)⟩⟩
  obtain ⟨pl, rfl, hpl⟩ := of_goodR g
  have k1 := k1 pl rfl hpl
  clear k2 hR hrow hpx g
  have s12 := s1.trans s2
  have ht2 := s2 _ _ ht1
  -- made = {}
  intro D hD
  have hD0 : H D = none := s12.free hD
  have s3 : Same H (upd H2 D (.dK [])) := s12.trans (same_new hD)
  have tD : t ≠ D := ne_of_none ht2 hD
  have uD : u' ≠ D := ne_of_none hu2 hD
  refine ⟨_, rfl, t, rfl, ⟨_, SqT.of (by rw [upd_ne tD]; exact ht2)⟩, ?_⟩
  have ksl : ks.length ≤ ps.length := reach_len ro.ok.wf hr hi
  refine for_tup (K := K) (a := t) (xs := natL ks) (fun j σ' H3 => ∃ v6 v7 : Option V, σ' = [some (.ref a), some (.int (i : Nat)), some (.ref q), some (.ref t), some (.ref u'), some (.ref D), v6, v7] ∧
    PoolAt T.C H3 a l d n (mFill n ps pl (ks.take j)).1 ∧ H3 D = some (.dK (dm (mFill n ps pl (ks.take j)).2)) ∧
    (∀ b o, H b = some o → b ≠ l → b ≠ d → H3 b = some o) ∧ H3 t = some (.tup (natL ks)) ∧ H3 u' = some (.tup (natL pl))) ?_ ?_ ?_ ?_
  · exact ⟨none, none, rfl, hp.news s3, upd_same, fun b o e _ _ => s3 b o e, by rw [upd_ne tD]; exact ht2, by rw [upd_ne uD]; exact hu2⟩
  · rintro j σ' H3 _ ⟨_, _, _, _, _, _, h, _⟩
    exact SqT.of h
  · rintro j y σ' H3 hj ⟨v6, v7, rfl, hP, hDm, hk, hT3, hU3⟩
    obtain ⟨k, hkj, rfl⟩ := natL_get hj
    have ci := fill_inv (u := u) n1 ro hpl hr hi j
    have hk0 := List.mem_of_getElem? hkj
    have hkr := (hr.mem k).mp hk0
    have hkn : k < ps.length := by have := hkr.le ro.ok.wf; omega
    obtain ⟨p, hpk⟩ : ∃ p, ps[k]? = some p := ⟨_, List.getElem?_eq_getElem hkn⟩
    have et : ks.take (j + 1) = ks.take j ++ [k] := take_snoc hkj
    have em : mFill n ps pl (ks.take (j + 1)) = fstep n ps pl (mFill n ps pl (ks.take j)) k := by rw [et, mFill_snoc]
    have hab := hab_take ro.ok.wf hr hkj hpk
    have hnk : k ∉ (mFill n ps pl (ks.take j)).2.map (fun (x : Nat × Nat) => x.1) := by rw [ci.keys]; exact not_in_take hr.asc hkj
    have hlen : (mFill n ps pl (ks.take j)).1.length ≤ 3800 := by have := ci.len; rw [List.length_take] at this; omega
    obtain ⟨dx4, ho4⟩ := id hP.ob
    have pk' := pre_at ci.pre hpk
    -- row = pool.part(number)
    refine ⟨_, rfl, a, dx4, _, rfl, ho4, no_meth (by decide +kernel), _, rfl, a, l, d, n, _, k, p, rfl, hP, pk', fun w' hw' => ?_⟩
    refine ⟨_, rfl, w', _, rfl, SqT.of hw', rfl, _, rfl, ?_⟩
    have Dl : D ≠ l := fun e => by rw [e, hLl] at hD0; cases hD0
    have Dd : D ≠ d := fun e => by rw [e, hp.dic] at hD0; cases hD0
    have tl : t ≠ l := ne_of ht1 (s1 _ _ hLl) (by intro z; cases z)
    have td : t ≠ d := ne_of ht1 (s1 _ _ hp.dic) (by intro z; cases z)
    have ul : u' ≠ l := ne_of hu2 (s12 _ _ hLl) (by intro z; cases z)
    have ud : u' ≠ d := ne_of hu2 (s12 _ _ hp.dic) (by intro z; cases z)
    have hz : (dm (mFill n ps pl (ks.take j)).2).length < sizeLine := by
      have : (mFill n ps pl (ks.take j)).2.length = (ks.take j).length := by have := congrArg List.length ci.keys; rw [List.length_map] at this; exact this
      rw [dm_len, this, List.length_take]; omega
    have fin : ∀ (H4 : Hp) (v6 v7 : Option V), PoolAt T.C H4 a l d n (fstepR n ps pl (mFill n ps pl (ks.take j)) k).2 → (∀ b o, H3 b = some o → b ≠ l → b ≠ d → H4 b = some o) →
        ∃ v6' v7' : Option V, [some (.ref a), some (.int (i : Nat)), some (.ref q), some (.ref t), some (.ref u'), some (.ref D), v6, v7] = [some (.ref a), some (.int (i : Nat)), some (.ref q), some (.ref t), some (.ref u'), some (.ref D), v6', v7'] ∧
        PoolAt T.C (upd H4 D (.dK (putK (dm (mFill n ps pl (ks.take j)).2) (Sum.inl ((k : Nat) : Int)) (.int ((fstepR n ps pl (mFill n ps pl (ks.take j)) k).1 : Nat))))) a l d n (mFill n ps pl (ks.take (j + 1))).1 ∧
        upd H4 D (.dK (putK (dm (mFill n ps pl (ks.take j)).2) (Sum.inl ((k : Nat) : Int)) (.int ((fstepR n ps pl (mFill n ps pl (ks.take j)) k).1 : Nat)))) D = some (.dK (dm (mFill n ps pl (ks.take (j + 1))).2)) ∧
        (∀ b o, H b = some o → b ≠ l → b ≠ d → upd H4 D (.dK (putK (dm (mFill n ps pl (ks.take j)).2) (Sum.inl ((k : Nat) : Int)) (.int ((fstepR n ps pl (mFill n ps pl (ks.take j)) k).1 : Nat)))) b = some o) ∧
        upd H4 D (.dK (putK (dm (mFill n ps pl (ks.take j)).2) (Sum.inl ((k : Nat) : Int)) (.int ((fstepR n ps pl (mFill n ps pl (ks.take j)) k).1 : Nat)))) t = some (.tup (natL ks)) ∧
        upd H4 D (.dK (putK (dm (mFill n ps pl (ks.take j)).2) (Sum.inl ((k : Nat) : Int)) (.int ((fstepR n ps pl (mFill n ps pl (ks.take j)) k).1 : Nat)))) u' = some (.tup (natL pl)) := by
      intro H4 v6 v7 hp4 hk4
      have hD4 := hk4 _ _ hDm Dl Dd
      refine ⟨v6, v7, rfl, ?_, ?_, fun b o e h1 h2 => ?_, ?_, ?_⟩
      · rw [em]; exact hp4.updK hD4
      · rw [upd_same, dm_put hnk, em]; rfl
      · rw [upd_ne (ne_of_none e hD0)]; exact hk4 _ _ (hk _ _ e h1 h2) h1 h2
      · rw [upd_ne tD]; exact hk4 _ _ hT3 tl td
      · rw [upd_ne uD]; exact hk4 _ _ hU3 ul ud
    have getm : ∀ z, z ∈ ks.take j → DGet H3 D (.int (z : Nat)) (some (.int (look (mFill n ps pl (ks.take j)).2 z : Nat))) := fun z hz => by
      have dg := DGet.k (k := Sum.inl ((z : Nat) : Int)) hDm
      rw [valV_dm, if_pos (by rw [ci.keys]; exact hz)] at dg
      exact dg
    have stay : ∀ v7 : Option V, (fstepR n ps pl (mFill n ps pl (ks.take j)) k) = (k, (mFill n ps pl (ks.take j)).1) → _ := fun v7 er => fin H3 (some (.int (k : Nat))) v7 (by rw [er]; exact hP) fun b o e _ _ => e
    cases p with
    | op o x y =>
      obtain ⟨hx', hy'⟩ := hab o x y rfl
      have er : fstepR n ps pl (mFill n ps pl (ks.take j)) k = mApply n (mFill n ps pl (ks.take j)).1 o (look (mFill n ps pl (ks.take j)).2 x) (look (mFill n ps pl (ks.take j)).2 y) := by unfold fstepR; rw [hpk]
      refine iteP (dT rfl) ?_
      refine ⟨_, rfl, a, dx4, _, rfl, ho4, no_meth (by decide +kernel), _, rfl, w', _, 0, _, rfl, rfl, SqT.of hw', rfl, _, rfl, _, rfl, w', _, 1, _, rfl, rfl, SqT.of hw', rfl, D, _, rfl, getm x hx', _, rfl, _, rfl, w', _, 2, _, rfl, rfl, SqT.of hw', rfl, D, _, rfl, getm y hy', ?_⟩
      refine ⟨a, l, d, n, _, o, _, _, rfl, hP, by omega, n12, ci.look hx', ci.look hy', Made.x (fun H4 hp4 hk4 => ?_) (Nat.le_trans (mApply_len _ _ _ _ _) (by omega))⟩
      rw [← er] at hp4 ⊢
      exact ⟨_, rfl, _, rfl, D, _, rfl, DPut.k (k := Sum.inl ((k : Nat) : Int)) (hk4 _ _ hDm Dl Dd) hz, fin H4 _ _ hp4 hk4⟩
    | get v =>
      have g0 := (ro.ok.get _ _ hpk).1
      refine iteN (fun z => absurd (of_decide_eq_true z) (by simp [Part.vals])) ?_
      refine ⟨_, rfl, w', _, 0, _, rfl, rfl, SqT.of hw', rfl, rfl, _, rfl, iteP (by decide) ?_⟩
      refine ⟨_, rfl, w', _, 1, .int v, rfl, rfl, SqT.of hw', rfl, _, rfl, u', _, rfl, SqT.of hU3, _, _, rfl, rfl, _, rfl, ?_⟩
      rw [natL_len]
      by_cases hv : v < pl.length
      · have er : fstepR n ps pl (mFill n ps pl (ks.take j)) k = (pl.getD v.toNat 0, (mFill n ps pl (ks.take j)).1) := by unfold fstepR; rw [hpk]; exact if_pos hv
        refine iteP (dT hv) ?_
        have := fin H3 (some (.int (k : Nat))) (some (.ref w')) (by rw [er]; exact hP) fun b o e _ _ => e
        rw [er] at this
        have hat : atI (natL pl) v = some (.int (pl.getD v.toNat 0 : Nat)) := by
          have := natL_at (pl := pl) (a := v.toNat) (by omega)
          rwa [Int.toNat_of_nonneg g0] at this
        exact ⟨_, rfl, _, rfl, w', _, 1, .int v, rfl, rfl, SqT.of hw', rfl, u', _, _, _, rfl, rfl, SqT.of hU3, hat, _, rfl, _, rfl, D, _, rfl, DPut.k (k := Sum.inl ((k : Nat) : Int)) hDm hz, this⟩
      · have er : fstepR n ps pl (mFill n ps pl (ks.take j)) k = (k, (mFill n ps pl (ks.take j)).1) := by unfold fstepR; rw [hpk]; exact if_neg hv
        refine iteN (dF hv) ?_
        have := stay (some (.ref w')) er
        rw [er] at this
        exact ⟨_, rfl, _, rfl, _, rfl, D, _, rfl, DPut.k (k := Sum.inl ((k : Nat) : Int)) hDm hz, this⟩
    | num v =>
      have er : fstepR n ps pl (mFill n ps pl (ks.take j)) k = (k, (mFill n ps pl (ks.take j)).1) := by unfold fstepR; rw [hpk]
      refine iteN (fun z => absurd (of_decide_eq_true z) (by simp [Part.vals])) ?_
      refine ⟨_, rfl, w', _, 0, _, rfl, rfl, SqT.of hw', rfl, rfl, _, rfl, iteN (by decide) (iteN (by decide) ?_)⟩
      have := stay (some (.ref w')) er
      rw [er] at this
      exact ⟨_, rfl, _, rfl, _, rfl, D, _, rfl, DPut.k (k := Sum.inl ((k : Nat) : Int)) hDm hz, this⟩
  · rintro σ' H3 ⟨v6, v7, rfl, hP, hDm, hk, hT3, hU3⟩
    rw [natL_len, List.take_length] at hP hDm
    have ci := fill_inv (u := u) n1 ro hpl hr hi ks.length
    rw [List.take_length] at ci
    have hik : i ∈ ks := (hr.mem i).mpr .self
    have dg := DGet.k (k := Sum.inl ((i : Nat) : Int)) hDm
    rw [valV_dm, if_pos (by rw [ci.keys]; exact hik)] at dg
    refine ⟨_, rfl, _, rfl, D, _, rfl, dg, ?_⟩
    exact k1 H3 ks hr ci hP hk
end
end My

/-! LA -/
namespace My
open PySem L2
local macro_rules | `(tactic| walk_at "side") => `(tactic| first | with_reducible rfl | assumption | rfl | decide | omega | exact cpow1 (by omega) (by omega) | exact cdiv (by omega) (by omega) | exact two_pos _ | exact SqL.of (by assumption) | exact SqT.of (by assumption) | exact TyX.base (TyOf.int _) | exact TyX.base (TyOf.bl _) | exact TyX.base TyOf.non | exact scal_opt _ _ | exact k_ii | exact k_bi | exact k_ni | exact k_ib | exact k_bb | exact TyX.base (TyOf.lst (by assumption)) | exact k_ll | exact k_lt)
local macro_rules | `(tactic| walk_at "p") => `(tactic| repeat (first | refine And.intro (by walk_at "side") ?_ | apply Exists.intro | refine iteN (by assumption) ?_ | refine iteP (by assumption) ?_ | refine iteN (by decide) ?_ | refine iteP (by decide) ?_))

/-- the draws at p, their numbers at q -/
def Dr (H : Hp) (p q : Addr) : Prop := ∃ (ns : List Int) (k : Nat), H p = some (.lst [.int k, .ref q]) ∧ H q = some (.lst (ns.map V.int)) ∧ ∀ x ∈ ns, 0 ≤ x
theorem Dr.ne {H : Hp} {p q : Addr} (h : Dr H p q) (hpq : p ≠ q) : True := trivial
theorem Dr.keep {S : Addr → Prop} {H H' : Hp} {p q : Addr} (h : Dr H p q) (k : Keep S H H') (hp : ¬ S p) (hq : ¬ S q) : Dr H' p q := by
  obtain ⟨ns, j, h1, h2, h3⟩ := h
  exact ⟨ns, j, k _ _ h1 hp, k _ _ h2 hq, h3⟩
theorem Dr.news {H H' : Hp} {p q : Addr} (h : Dr H p q) (s : Same H H') : Dr H' p q := h.keep (S := fun _ => False) (fun b o e _ => s b o e) id id
section
variable {P : Program} {w : World} {K : PySem.W.Frag} {mg : Str → Option Value} {base : Heap}
def sp_law_take (T : Txt K mg) : Sp := fun vs H Q _ => ∃ (p q : Addr) (m : Int), vs = [.ref p, .int m] ∧ Dr H p q ∧ p ≠ q ∧ 0 < m ∧ ∀ (H' : Hp) (v : Int), 0 ≤ v → v < m → Dr H' p q → (∀ b o, H b = some o → b ≠ p → H' b = some o) → Q (.int v) H'
theorem sp_law_take_len {T : Txt K mg} {vs H Q E} (h : sp_law_take T vs H Q E) : vs.length = 2 := by obtain ⟨_, _, _, rfl, _⟩ := h; rfl
theorem ok_law_take (T : Txt K mg) : FnOk P w K mg base CX0 1 T.f_law_take T.fd_law_take ["_law_draws_here", "_law_many"] (sp_law_take T) := by
  skip
  refine T.F_law_take.ok sc_law_take (fun vs H Q E h => sp_law_take_len h) (fun cdv A outer s H vs Q E hr h => ?_)
  obtain ⟨p, q, m, rfl, ⟨ns, j, h1, h2, h3⟩, hpq, hm, k⟩ := h
  refine ⟨_, (pss_cons (ps_set (i := 2) sc_law_take.nd rfl (Or.inl rfl) (pe_ix ix_list (pv 0) pe_int (fun _ _ => rfl)))
       (pss_cons (ps_if (pt_cmpR op_ge (pv 2) (pe_callB call_lenL (by rfl) T.n_len (by decide +kernel) (pa_cons (pe_ix ix_list (pv 0) pe_int (fun _ _ => rfl)) pa_nil)) (nomark _))
        (pss_one (ps_ret pe_int))
        pss_nil)
       (pss_cons (ps_asg (pe_op op_add (pv 2) pe_int) (pg_sub (pv 0) pe_int set_list))
       (pss_one (ps_ret (pe_op op_mod (pe_callTy call_intI (by rfl) T.n_int (by decide +kernel) (pa_cons (pe_ix ix_list (pe_ix ix_list (pv 0) pe_int (fun _ _ => rfl)) (pv 2) (fun _ _ => rfl)) pa_nil)) (pv 1))))))), ?_⟩
  refine ⟨_, rfl, p, _, 0, _, rfl, rfl, SqL.of h1, rfl, ?_⟩
  refine ⟨_, rfl, _, rfl, p, _, 1, _, rfl, rfl, SqL.of h1, rfl, q, _, rfl, SqL.of h2, _, _, rfl, rfl, _, rfl, ?_⟩
  by_cases hj : ns.length ≤ j
  · exact iteP (dT (by rw [List.length_map]; omega)) (k H 0 (by omega) hm ⟨ns, j, h1, h2, h3⟩ fun b o e _ => e)
  refine iteN (dF (by rw [List.length_map]; omega)) ?_
  refine ⟨_, rfl, _, _, rfl, rfl, _, rfl, p, _, 0, 0, rfl, rfl, h1, rfl, ?_⟩
  have h1' : upd H p (.lst [.int ((j : Int) + 1), .ref q]) p = some (.lst [.int ((j : Int) + 1), .ref q]) := upd_same
  have h2' : upd H p (.lst [.int ((j : Int) + 1), .ref q]) q = some (.lst (ns.map V.int)) := by rw [upd_ne hpq.symm]; exact h2
  obtain ⟨x, hx⟩ : ∃ x, ns[j]? = some x := ⟨_, List.getElem?_eq_getElem (by omega)⟩
  refine ⟨_, rfl, p, _, 1, _, rfl, rfl, SqL.of h1', rfl, _, rfl, q, _, _, .int x, rfl, rfl, SqL.of h2', at_of rfl (by rw [List.getElem?_map, hx]; rfl), x, rfl, _, rfl, _, _, rfl, rfl, hm, ?_⟩
  refine k _ (x % m) (Int.emod_nonneg _ (by omega)) (Int.emod_lt_of_pos _ hm) ⟨ns, j + 1, ?_, h2', h3⟩ fun b o e hb => by rw [upd_ne hb]; exact e
  exact upd_same.trans rfl
def sp_law_word (T : Txt K mg) : Sp := fun vs H Q _ => ∃ (p q : Addr) (n : Nat), vs = [.ref p, .int n] ∧ Dr H p q ∧ p ≠ q ∧ n ≤ 12 ∧ ∀ (H' : Hp) (v : Int), 0 ≤ v → v < 2 ^ n → Dr H' p q → (∀ b o, H b = some o → b ≠ p → H' b = some o) → Q (.int v) H'
theorem sp_law_word_len {T : Txt K mg} {vs H Q E} (h : sp_law_word T vs H Q E) : vs.length = 2 := by obtain ⟨_, _, _, rfl, _⟩ := h; rfl
theorem shl_mod {x : Int} {n : Nat} {C : Int → Prop} (h : ∀ v, 0 ≤ v → v < 2 ^ n → C v) : C (x % (1 * 2 ^ (n : Int).toNat)) := by
  rw [Int.one_mul, Int.toNat_natCast]
  exact h _ (Int.emod_nonneg _ (by have := pow_pos' n; omega)) (Int.emod_lt_of_pos _ (pow_pos' n))
theorem ok_law_word (T : Txt K mg) : FnOk P w K mg base CX0 2 T.f_law_word T.fd_law_word ["_law_draws_here", "_law_width"] (sp_law_word T) := by
  have G_law_take := ok_law_take (P := P) (w := w) (base := base) T
  refine T.F_law_word.ok sc_law_word (fun vs H Q E h => sp_law_word_len h) (fun cdv A outer s H vs Q E hr h => ?_)
  obtain ⟨p, q, n, rfl, hd, hpq, hn, k⟩ := h
  refine ⟨_, (pss_cons (ps_set (i := 2) sc_law_word.nd rfl (Or.inl rfl) (pe_call G_law_take hr rfl T.g_law_take T.F_law_take.kp T.b_law_take .nil pass0 (pa_cons (pv 0) (pa_cons pe_int pa_nil))))
       (pss_cons (ps_set (i := 3) sc_law_word.nd rfl (Or.inl rfl) (pe_call G_law_take hr rfl T.g_law_take T.F_law_take.kp T.b_law_take .nil pass0 (pa_cons (pv 0) (pa_cons pe_int pa_nil))))
       (pss_cons (ps_set (i := 4) sc_law_word.nd rfl (Or.inl rfl) (pe_call G_law_take hr rfl T.g_law_take T.F_law_take.kp T.b_law_take .nil pass0 (pa_cons (pv 0) (pa_cons pe_int pa_nil))))
       (pss_cons (ps_if (pt_cmpR op_eq (pv 4) pe_int (nomark _))
        (pss_one (ps_ret (pe_op op_mod (pe_callTy call_intI (by rfl) T.n_int (by decide +kernel) (pa_cons (pe_op op_sub (pe_op op_sub pe_int pe_int) (pe_op op_mod (pv 3) pe_int)) pa_nil)) (pe_op op_shl pe_int (pv 1)))))
        pss_nil)
       (pss_cons (ps_if (pt_cmpR op_eq (pv 4) pe_int (nomark _))
        (pss_one (ps_ret (pe_op op_mod (pe_callTy call_intI (by rfl) T.n_int (by decide +kernel) (pa_cons (pe_op op_mod (pv 3) pe_int) pa_nil)) (pe_op op_shl pe_int (pv 1)))))
        pss_nil)
       (pss_one (ps_ret (pe_op op_mod (pe_callTy call_intI (by rfl) T.n_int (by decide +kernel) (pa_cons (pe_op op_add (pe_op op_mul (pv 2) pe_int) (pv 3)) pa_nil)) (pe_op op_shl pe_int (pv 1)))))))))), ?_⟩
  refine ⟨_, rfl, p, q, _, rfl, hd, hpq, by decide, fun H1 x x0 x1 d1 k1 => ?_⟩
  refine ⟨_, rfl, p, q, _, rfl, d1, hpq, by decide, fun H2 y y0 y1 d2 k2 => ?_⟩
  refine ⟨_, rfl, p, q, _, rfl, d2, hpq, by decide, fun H3 z z0 z1 d3 k3 => ?_⟩
  have kk : ∀ v, 0 ≤ v → v < 2 ^ n → Q (.int v) H3 := fun v v0 v1 => k H3 v v0 v1 d3 fun b o e hb => k3 _ _ (k2 _ _ (k1 _ _ e hb) hb) hb
  refine ⟨_, rfl, rfl, _, rfl, ite2 (fun _ => ?_) fun _ => ?_⟩
  · refine ⟨_, _, rfl, rfl, _, rfl, _, _, rfl, rfl, by show (0 : Int) < 2; decide, _, _, rfl, rfl, _, rfl, _, rfl, _, _, rfl, rfl, cpow1 (by omega) (by omega), _, _, rfl, rfl, two_pos _, ?_⟩
    exact shl_mod (C := fun v => Q (.int v) H3) kk
  refine ⟨_, rfl, rfl, _, rfl, ite2 (fun _ => ?_) fun _ => ?_⟩
  · refine ⟨_, rfl, _, _, rfl, rfl, by show (0 : Int) < 3; decide, _, rfl, _, rfl, _, _, rfl, rfl, cpow1 (by omega) (by omega), _, _, rfl, rfl, two_pos _, ?_⟩
    exact shl_mod (C := fun v => Q (.int v) H3) kk
  · refine ⟨_, rfl, _, _, rfl, rfl, by right; decide, _, rfl, _, _, rfl, rfl, _, rfl, _, rfl, _, _, rfl, rfl, cpow1 (by omega) (by omega), _, _, rfl, rfl, two_pos _, ?_⟩
    exact shl_mod (C := fun v => Q (.int v) H3) kk
def opList : List V := [.str "add", .str "xor", .str "sub", .str "and", .str "same", .str "or", .str "less"]
def sp_law_ops (T : Txt K mg) : Sp := fun vs H Q _ => vs = [] ∧ ∀ p, H p = none → Q (.ref p) (upd H p (.lst opList))
theorem sp_law_ops_len {T : Txt K mg} {vs H Q E} (h : sp_law_ops T vs H Q E) : vs.length = 0 := by obtain ⟨rfl, _⟩ := h; rfl
theorem ok_law_ops (T : Txt K mg) : FnOk P w K mg base CX0 1 T.f_law_ops T.fd_law_ops [] (sp_law_ops T) := by
  skip
  refine T.F_law_ops.ok sc_law_ops (fun vs H Q E h => sp_law_ops_len h) (fun cdv A outer s H vs Q E hr h => ?_)
  obtain ⟨rfl, k⟩ := h
  refine ⟨_, (pss_one (ps_ret (pe_lst (pa_cons pe_str (pa_cons pe_str (pa_cons pe_str (pa_cons pe_str (pa_cons pe_str (pa_cons pe_str (pa_cons pe_str pa_nil)))))))))), ?_⟩
  exact ⟨by show 7 ≤ sizeLine; decide, k⟩
def sp_law_draws (T : Txt K mg) : Sp := fun vs H Q _ => ∃ (a : Addr) (xs : List Int), vs = [.ref a] ∧ SqL K H a (xs.map V.int) ∧ xs.length ≤ 63 ∧ ∀ (H' : Hp) (p q : Addr), Same H H' → H p = none → H q = none → p ≠ q → Dr H' p q → Q (.ref p) H'
theorem sp_law_draws_len {T : Txt K mg} {vs H Q E} (h : sp_law_draws T vs H Q E) : vs.length = 1 := by obtain ⟨_, _, rfl, _⟩ := h; rfl
/-- numbers so far -/
def NumsAt (H0 H : Hp) (N : Addr) (m : Nat) : Prop := Same H0 H ∧ ∃ ns : List Int, H N = some (.lst (ns.map V.int)) ∧ ns.length ≤ m ∧ ∀ x ∈ ns, 0 ≤ x
theorem NumsAt.more {H0 H : Hp} {N : Addr} {m m' : Nat} (h : NumsAt H0 H N m) (l : m ≤ m') : NumsAt H0 H N m' := by
  obtain ⟨s, ns, h1, h2, h3⟩ := h
  exact ⟨s, ns, h1, by omega, h3⟩
theorem NumsAt.push {H0 H : Hp} {N : Addr} {m : Nat} {x : Int} (h0 : H0 N = none) (h : NumsAt H0 H N m) (hx : 0 ≤ x) : ∃ xs : List V, H N = some (.lst xs) ∧ xs.length ≤ m ∧ NumsAt H0 (upd H N (.lst (xs ++ [.int x]))) N (m + 1) := by
  obtain ⟨s, ns, h1, h2, h3⟩ := h
  refine ⟨_, h1, by rw [List.length_map]; exact h2, fun b o e => ?_, ns ++ [x], by rw [upd_same, List.map_append]; rfl, by simp; omega, fun z hz => ?_⟩
  · rw [upd_ne (ne_of_none e h0)]; exact s _ _ e
  · rcases List.mem_append.mp hz with hz | hz
    · exact h3 z hz
    · simp at hz; subst hz; exact hx
theorem ok_law_draws (T : Txt K mg) : FnOk P w K mg base CX0 1 T.f_law_draws T.fd_law_draws ["_law_script"] (sp_law_draws T) := by
  skip
  refine T.F_law_draws.ok sc_law_draws (fun vs H Q E h => sp_law_draws_len h) (fun cdv A outer s H vs Q E hr h => ?_)
  obtain ⟨a, xs, rfl, hx, h63, k⟩ := h
  refine ⟨_, (pss_cons (ps_set (i := 1) sc_law_draws.nd rfl (Or.inl rfl) (pe_lst pa_nil))
       (pss_cons (ps_for PassesOwn.never rfl (pi_range1 (by rfl) T.n_range (pa_cons (pe_callB (call_min2 rfl) (by rfl) T.n_min (by decide +kernel) (pa_cons (pe_callB call_lenL (by rfl) T.n_len (by decide +kernel) (pa_cons (pv 0) pa_nil)) (pa_cons pe_int pa_nil))) pa_nil)) (pg_name (i := 2) sc_law_draws.nd rfl (Or.inl rfl))
        (pss_cons (ps_set (i := 3) sc_law_draws.nd rfl (Or.inl rfl) (pe_callTy call_intI (by rfl) T.n_int (by decide +kernel) (pa_cons (pe_ix ix_list (pv 0) (pv 2) (fun _ _ => rfl)) pa_nil)))
       (pss_cons (ps_set (i := 4) sc_law_draws.nd rfl (Or.inl rfl) pe_int)
       (Evl.pss_cut (ps_if (pt_cmpR op_lt (pv 3) pe_int (nomark _))
        (pss_cons (ps_set (i := 4) sc_law_draws.nd rfl (Or.inl rfl) pe_int)
       (pss_one (ps_set (i := 3) sc_law_draws.nd rfl (Or.inl rfl) (pe_un un_neg (pv 3)))))
        pss_nil)
       (pss_one (ps_if (pt_cmpR op_ge (pv 3) (pe_op op_pow pe_int pe_int) (nomark _))
        (pss_one (ps_for PassesOwn.never rfl (pi_range1 (by rfl) T.n_range (pa_cons pe_int pa_nil)) (pg_name (i := 5) sc_law_draws.nd rfl (Or.inl rfl))
        (pss_one (ps_if (pt_cmpR op_gt (pv 3) pe_int (nomark _))
        (pss_cons (ps_expr (pe_bm PySem.F.plainAttrs_list PySem.F.slot_list_append PySem.F.type_list_append mt_append (pv 1) (pa_cons (pe_op op_mod (pe_callTy call_intI (by rfl) T.n_int (by decide +kernel) (pa_cons (pv 3) pa_nil)) pe_int) pa_nil)))
       (pss_one (ps_set (i := 3) sc_law_draws.nd rfl (Or.inl rfl) (pe_op op_fdiv (pv 3) pe_int))))
        pss_nil))))
        (pss_cons (ps_set (i := 6) sc_law_draws.nd rfl (Or.inl rfl) (pe_op op_mod (pe_callTy call_intI (by rfl) T.n_int (by decide +kernel) (pa_cons (pe_op op_add (pe_op op_add (pe_op op_add (pe_op op_mul (pv 3) pe_int) (pe_op op_mul (pv 4) pe_int)) (pe_op op_mul (pv 2) pe_int)) pe_int) pa_nil)) pe_int))
       (pss_one (ps_for PassesOwn.never rfl (pi_range1 (by rfl) T.n_range (pa_cons pe_int pa_nil)) (pg_name (i := 5) sc_law_draws.nd rfl (Or.inl rfl))
        (pss_cons (ps_set (i := 6) sc_law_draws.nd rfl (Or.inl rfl) (pe_op op_mod (pe_callTy call_intI (by rfl) T.n_int (by decide +kernel) (pa_cons (pe_op op_add (pe_op op_add (pe_op op_mul (pv 6) pe_int) (pe_op op_fdiv (pv 6) pe_int)) (pv 5)) pa_nil)) pe_int))
       (pss_one (ps_expr (pe_bm PySem.F.plainAttrs_list PySem.F.slot_list_append PySem.F.type_list_append mt_append (pv 1) (pa_cons (pe_op op_fdiv (pv 6) pe_int) pa_nil))))))))))))))
       (pss_one (ps_ret (pe_lst (pa_cons pe_int (pa_cons (pv 1) pa_nil))))))), ?_⟩
  have sz : sizeLine = 16777216 := sizeLine_eq
  refine ⟨Nat.zero_le _, fun N hN => ?_⟩
  have sN := same_new (o := .lst []) hN
  have emin : (if (63 : Int) < ((xs.map V.int).length : Nat) then (63 : Int) else ((xs.map V.int).length : Nat)) = (xs.length : Nat) := by
    rw [List.length_map, if_neg (by omega)]
  refine ⟨_, rfl, a, _, rfl, sN.seq hx, _, _, rfl, ?_⟩
  rw [emin]
  refine ⟨_, rfl, by omega, by omega, ?_⟩
  refine for_range (lo := 0) (n := ((xs.length : Nat) : Int).toNat) (fun i σ' H1 => ∃ v2 v3 v4 v5 v6 : Option V, σ' = [some (.ref a), some (.ref N), v2, v3, v4, v5, v6] ∧ NumsAt H H1 N (45 * i)) ⟨none, none, none, none, none, rfl, sN, [], upd_same, Nat.le_refl _, by simp⟩ ?_ ?_
  · rintro i σ' H1 hi ⟨v2, v3, v4, v5, v6, rfl, hn⟩
    rw [Int.toNat_natCast] at hi
    obtain ⟨x, hxi⟩ : ∃ x, xs[i]? = some x := ⟨_, List.getElem?_eq_getElem hi⟩
    refine ⟨_, rfl, _, rfl, a, _, _, .int x, rfl, rfl, hn.1.seq hx, at_of (j := i) (by omega) (by rw [List.getElem?_map, hxi]; rfl), x, rfl, ?_⟩
    -- the sign
    refine ⟨fun σ' H2 => H2 = H1 ∧ ∃ c sg : Int, σ' = [some (.ref a), some (.ref N), some (.int (0 + i)), some (.int c), some (.int sg), v5, v6] ∧ 0 ≤ c ∧ 0 ≤ sg ∧ sg ≤ 1, ?_, ?_⟩
    · refine ⟨_, rfl, _, _, rfl, rfl, _, rfl, ite2d (fun hc => ?_) fun hc => ?_⟩
      · exact ⟨_, rfl, _, rfl, rfl, -x, 1, rfl, by omega, by omega, by omega⟩
      · exact ⟨rfl, x, 0, rfl, by omega, by omega, by omega⟩
    rintro σ' H2 ⟨rfl, c, sg, rfl, c0, g0, g1⟩
    refine ⟨_, rfl, _, _, rfl, rfl, cpow10, _, _, rfl, rfl, _, rfl, ite2d (fun hc => ?_) fun hc => ?_⟩
    · -- a great number: its digits
      refine ⟨45, rfl, by decide, by decide, ?_⟩
      refine for_range (lo := 0) (n := (45 : Int).toNat) (fun t σ' H3 => ∃ (c : Int) (v5 : Option V), σ' = [some (.ref a), some (.ref N), some (.int (0 + i)), some (.int c), some (.int sg), v5, v6] ∧ 0 ≤ c ∧ NumsAt H H3 N (45 * i + t)) ⟨c, v5, rfl, c0, hn⟩ ?_ ?_
      · rintro t σ' H3 ht ⟨c, v5, rfl, c0, hn⟩
        refine ⟨_, rfl, _, _, rfl, rfl, _, rfl, ite2d (fun hc => ?_) fun hc => ?_⟩
        · obtain ⟨ys, hy, hyl, hn2⟩ := hn.push (x := c % 30) hN (Int.emod_nonneg _ (by decide))
          have ht : t < 45 := ht
          refine ⟨_, rfl, .inl ⟨rfl, _, SqL.of hy⟩, _, rfl, _, rfl, _, _, rfl, rfl, by show (0 : Int) < 30; decide, N, _, _, rfl, rfl, hy, by omega, ?_⟩
          refine ⟨_, rfl, _, _, rfl, rfl, ⟨by decide, by decide⟩, ?_⟩
          exact ⟨_, _, rfl, Int.ediv_nonneg c0 (by decide), hn2⟩
        · exact ⟨c, _, rfl, c0, hn.more (by omega)⟩
      · rintro σ' H3 ⟨c, v5, rfl, c0, hn⟩
        exact ⟨_, _, _, _, _, rfl, hn.more (by show 45 * i + 45 ≤ 45 * (i + 1); omega)⟩
    · have hc : c < 1000000000000000000 := by
        have : ¬ (10 : Int) ^ (18 : Int).toNat ≤ c := hc
        have e : (10 : Int) ^ (18 : Int).toNat = 1000000000000000000 := by decide
        omega
      refine ⟨_, rfl, _, _, rfl, rfl, Or.inr (by constructor <;> decide), _, rfl, _, _, rfl, rfl, Or.inr (by constructor <;> decide), _, _, rfl, rfl, _, rfl, _, _, rfl, rfl, Or.inr (by constructor <;> decide), _, _, rfl, rfl, _, _, rfl, rfl, _, rfl, _, _, rfl, rfl, by show (0 : Int) < 2147483647; decide, ?_⟩
      have m0 : 0 ≤ (c * 16807 + sg * 911 + (0 + (i : Int)) * 7919 + 13) % 2147483647 ∧ (c * 16807 + sg * 911 + (0 + (i : Int)) * 7919 + 13) % 2147483647 < 2147483647 := ⟨Int.emod_nonneg _ (by decide), Int.emod_lt_of_pos _ (by decide)⟩
      refine ⟨6, rfl, by decide, by decide, ?_⟩
      refine for_range (lo := 0) (n := (6 : Int).toNat) (fun t σ' H3 => ∃ (mx : Int) (v5 : Option V), σ' = [some (.ref a), some (.ref N), some (.int (0 + i)), some (.int c), some (.int sg), v5, some (.int mx)] ∧ 0 ≤ mx ∧ mx < 2147483647 ∧ NumsAt H H3 N (45 * i + t)) ⟨_, v5, rfl, m0.1, m0.2, hn⟩ ?_ ?_
      · rintro t σ' H3 ht ⟨mx, v5, rfl, m0, m1, hn⟩
        have ht : t < 6 := ht
        refine ⟨_, rfl, _, _, rfl, rfl, Or.inr (by constructor <;> decide), _, rfl, _, _, rfl, rfl, ⟨by decide, by decide⟩, _, _, rfl, rfl, _, rfl, _, _, rfl, rfl, _, rfl, _, _, rfl, rfl, by show (0 : Int) < 2147483647; decide, ?_⟩
        have m2 : 0 ≤ (mx * 69621 + mx / 1000 + (0 + (t : Int))) % 2147483647 ∧ (mx * 69621 + mx / 1000 + (0 + (t : Int))) % 2147483647 < 2147483647 := ⟨Int.emod_nonneg _ (by decide), Int.emod_lt_of_pos _ (by decide)⟩
        obtain ⟨ys, hy, hyl, hn2⟩ := hn.push (x := (mx * 69621 + mx / 1000 + (0 + (t : Int))) % 2147483647 / 8) hN (Int.ediv_nonneg m2.1 (by decide))
        refine ⟨_, rfl, .inl ⟨rfl, _, SqL.of hy⟩, _, rfl, _, _, rfl, rfl, ⟨by decide, by decide⟩, N, _, _, rfl, rfl, hy, by omega, ?_⟩
        exact ⟨_, _, rfl, m2.1, m2.2, hn2⟩
      · rintro σ' H3 ⟨mx, v5, rfl, m0, m1, hn⟩
        exact ⟨_, _, _, _, _, rfl, hn.more (by show 45 * i + 6 ≤ 45 * (i + 1); omega)⟩
  · rintro σ' H1 ⟨v2, v3, v4, v5, v6, rfl, hn⟩
    obtain ⟨s1, ns, h1, _, h3⟩ := hn
    refine ⟨_, rfl, by show 2 ≤ sizeLine; decide, fun p hp => ?_⟩
    have pN : N ≠ p := ne_of_none h1 hp
    exact k _ p N (s1.trans (same_new hp)) (s1.free hp) hN pN.symm ⟨ns, 0, upd_same, by rw [upd_ne pN]; exact h1, h3⟩
end
end My

/-! LB -/
namespace My
open PySem L2
local macro_rules | `(tactic| walk_at "side") => `(tactic| first | with_reducible rfl | assumption | rfl | decide | omega | exact cpow1 (by omega) (by omega) | exact cdiv (by omega) (by omega) | exact two_pos _ | exact SqL.of (by assumption) | exact SqT.of (by assumption) | exact TyX.base (TyOf.int _) | exact TyX.base (TyOf.bl _) | exact TyX.base TyOf.non | exact scal_opt _ _ | exact k_ii | exact k_bi | exact k_ni | exact k_ib | exact k_bb | exact TyX.base (TyOf.lst (by assumption)) | exact k_ll | exact k_lt)
local macro_rules | `(tactic| walk_at "p") => `(tactic| repeat (first | refine And.intro (by walk_at "side") ?_ | apply Exists.intro | refine iteN (by assumption) ?_ | refine iteP (by assumption) ?_ | refine iteN (by decide) ?_ | refine iteP (by decide) ?_))

section
variable {P : Program} {w : World} {K : PySem.W.Frag} {mg : Str → Option Value} {base : Heap}
/-- what a call that keeps parts in the list at l leaves -/
def LMade (H : Hp) (l : Addr) (r : Nat × List Part) (Q : VK) : Prop := ∀ H' : Hp, LAt H' l r.2 → (∀ b o, H b = some o → b ≠ l → H' b = some o) → Q (.int (r.1 : Nat)) H'
theorem LMade.news {H H' : Hp} {l : Addr} {r : Nat × List Part} {Q : VK} (h : LMade H l r Q) (s : Same H H') : LMade H' l r Q := fun H2 hp k => h H2 hp fun b o e h1 => k b o (s b o e) h1
theorem LAt.news {H H' : Hp} {l : Addr} {ps : List Part} (h : LAt H l ps) (s : Same H H') : LAt H' l ps := h.keep (S := fun _ => False) (fun b o e _ => s b o e) id fun _ _ _ => id
def sp_law_keep (T : Txt K mg) : Sp := fun vs H Q _ => ∃ (l t : Addr) (ps : List Part) (p : Part), vs = [.ref l, .ref t] ∧ LAt H l ps ∧ H t = some (.tup p.vals) ∧ ps.length < 1000 ∧ LMade H l (mk ps p) Q
theorem sp_law_keep_len {T : Txt K mg} {vs H Q E} (h : sp_law_keep T vs H Q E) : vs.length = 2 := by obtain ⟨_, _, _, _, rfl, _⟩ := h; rfl
theorem ok_law_keep (T : Txt K mg) : FnOk P w K mg base CX0 1 T.f_law_keep T.fd_law_keep ["_law_parts", "_law_part_here"] (sp_law_keep T) := by
  skip
  refine T.F_law_keep.ok sc_law_keep (fun vs H Q E h => sp_law_keep_len h) (fun cdv A outer s H vs Q E hr h => ?_)
  obtain ⟨l, t, ps, p, rfl, hl, ht, hn, k⟩ := h
  obtain ⟨xs, hL, ex, hit⟩ := hl.item
  have tl : t ≠ l := ne_of ht hL (by intro z; cases z)
  have sz : sizeLine = 16777216 := sizeLine_eq
  refine ⟨_, (pss_cons (ps_for PassesOwn.never rfl (pi_range1 (by rfl) T.n_range (pa_cons (pe_callB call_lenL (by rfl) T.n_len (by decide +kernel) (pa_cons (pv 0) pa_nil)) pa_nil)) (pg_name (i := 2) sc_law_keep.nd rfl (Or.inl rfl))
        (pss_one (ps_if (pt_cmpR (op_eqD hr.units) (pe_ix ix_list (pv 0) (pv 2) (fun _ _ => rfl)) (pv 1) (nomark _))
        (pss_one (ps_ret (pv 2)))
        pss_nil)))
       (pss_cons (ps_expr (pe_bm PySem.F.plainAttrs_list PySem.F.slot_list_append PySem.F.type_list_append mt_append (pv 0) (pa_cons (pv 1) pa_nil)))
       (pss_one (ps_ret (pe_op op_sub (pe_callB call_lenL (by rfl) T.n_len (by decide +kernel) (pa_cons (pv 0) pa_nil)) pe_int))))), ?_⟩
  refine ⟨_, rfl, l, xs, rfl, SqL.of hL, _, rfl, by omega, by omega, ?_⟩
  refine for_range (lo := 0) (n := ((xs.length : Nat) : Int).toNat) (fun i σ' H' => H' = H ∧ (∀ j < i, ps[j]? ≠ some p) ∧ ∃ v2 : Option V, σ' = [some (.ref l), some (.ref t), v2]) ⟨rfl, fun j hj => absurd hj (Nat.not_lt_zero _), none, rfl⟩ ?_ ?_
  · rintro i σ' H' hi ⟨rfl, hno, v2, rfl⟩
    rw [Int.toNat_natCast, ex] at hi
    obtain ⟨q, hq⟩ : ∃ q, ps[i]? = some q := ⟨_, List.getElem?_eq_getElem hi⟩
    obtain ⟨u, hu, hU⟩ := hit i q hq
    refine ⟨_, rfl, _, rfl, l, xs, _, _, rfl, rfl, SqL.of hL, at_of (j := i) (by omega) hu, _, rfl, eqT hU ht ⟨_, rfl, ite2d (fun e => ?_) fun e => ?_⟩⟩
    · subst e
      have hm : q ∈ ps := List.mem_of_getElem? hq
      have hidx : ps.idxOf q = i := by
        have h1 : ps.idxOf q < ps.length := List.idxOf_lt_length_iff.mpr hm
        have h2 : ps[ps.idxOf q]? = some q := by rw [List.getElem?_eq_getElem h1, List.getElem_idxOf]
        have h3 : ps.idxOf q ≤ i := by
          exact idxOf_le hq
        by_cases h4 : ps.idxOf q < i
        · exact absurd h2 (hno _ h4)
        · omega
      have hk : mk ps q = (i, ps) := by unfold mk; rw [if_pos hm, hidx]
      rw [hk] at k
      refine ⟨_, rfl, ?_⟩
      have := k H' hl fun b o e _ => e
      rw [show (0 : Int) + (i : Nat) = (i : Nat) by omega]
      exact this
    · exact ⟨rfl, fun j hj => by
        by_cases hji : j = i
        · subst hji; rw [hq]; exact fun z => e (Option.some.inj z)
        · exact hno j (by omega), _, rfl⟩
  · rintro σ' H' ⟨rfl, hno, v2, rfl⟩
    rw [Int.toNat_natCast, ex] at hno
    have hm : p ∉ ps := fun hm => by
      obtain ⟨j, hj, e⟩ := List.getElem_of_mem hm
      exact hno j hj (by rw [List.getElem?_eq_getElem hj, e])
    have hk : mk ps p = (ps.length, ps ++ [p]) := if_neg hm
    rw [hk] at k
    refine ⟨_, rfl, Or.inl ⟨rfl, _, SqL.of hL⟩, _, rfl, l, xs, _, rfl, rfl, hL, by omega, ?_⟩
    refine ⟨_, rfl, l, _, rfl, SqL.of upd_same, _, _, rfl, rfl, ?_⟩
    have := k (upd H' l (.lst (xs ++ [.ref t]))) (hl.push hL (fun b ys e => by rw [upd_ne (ne_of e hL (by intro z; cases z))]; exact e) upd_same (by rw [upd_ne tl]; exact ht)) fun b o e hb => by rw [upd_ne hb]; exact e
    have e2 : (((xs ++ [V.ref t]).length : Nat) : Int) - 1 = (ps.length : Nat) := by rw [List.length_append, List.length_singleton]; omega
    show Q (V.int ((((xs ++ [V.ref t]).length : Nat) : Int) - 1)) _
    rw [e2]
    exact this
/-- what short promises: -1 where nothing is shortened -/
def sp_law_short (T : Txt K mg) : Sp := fun vs H Q _ => ∃ (l : Addr) (ps : List Part) (n : Nat) (o : Op) (a b : Nat), vs = [.ref l, .int n, .str o.s, .int a, .int b] ∧ LAt H l ps ∧ ps.length < 1000 ∧ n ≤ 12 ∧ a < ps.length ∧ b < ps.length ∧
  (shortR o (wordOf ps a) (wordOf ps b) (decide (a = b)) (2 ^ n - 1) = .no → ∀ H', Same H H' → Q (.int (-1)) H') ∧
  (shortR o (wordOf ps a) (wordOf ps b) (decide (a = b)) (2 ^ n - 1) ≠ .no → LMade H l (fin ps o a b (shortR o (wordOf ps a) (wordOf ps b) (decide (a = b)) (2 ^ n - 1))) Q)
theorem sp_law_short_len {T : Txt K mg} {vs H Q E} (h : sp_law_short T vs H Q E) : vs.length = 5 := by obtain ⟨_, _, _, _, _, _, rfl, _⟩ := h; rfl
/-- a name among written ones -/
theorem in_mark {x : V} {xs : List V} (h : inV x xs = true) : (if false = true then !inV x xs else inV x xs) = true := by rw [if_neg Bool.false_ne_true]; exact h
theorem nin_mark {x : V} {xs : List V} (h : inV x xs = false) : ¬ (if false = true then !inV x xs else inV x xs) = true := by rw [if_neg Bool.false_ne_true, h]; decide
def tailR (o : Op) (fa fb : Option Int) (eq : Bool) (most : Int) : Sh :=
  if o = .and then (if fa = some most then .other else if fb = some most ∨ eq = true then .one else .no) else if eq = true then shTwice o else .no
theorem ok_law_short (T : Txt K mg) : FnOk P w K mg base CX0 2 T.f_law_short T.fd_law_short ["_law_parts", "_law_width", "_law_name", "_law_one", "_law_other"] (sp_law_short T) := by
  have G_law_keep := ok_law_keep (P := P) (w := w) (base := base) T
  refine T.F_law_short.ok sc_law_short (fun vs H Q E h => sp_law_short_len h) (fun cdv A outer s H vs Q E hr h => ?_)
  obtain ⟨l, ps, n, o, a, b, rfl, hl, hn, hw, ha, hb, k1, k2⟩ := h
  obtain ⟨xs, hL, ex, hit⟩ := hl.item
  obtain ⟨pa, hpa⟩ : ∃ p, ps[a]? = some p := ⟨_, List.getElem?_eq_getElem ha⟩
  obtain ⟨pb, hpb⟩ : ∃ p, ps[b]? = some p := ⟨_, List.getElem?_eq_getElem hb⟩
  obtain ⟨ta, hta, hTa⟩ := hit a pa hpa
  obtain ⟨tb, htb, hTb⟩ := hit b pb hpb
  rw [wordOf_at hpa, wordOf_at hpb] at k1 k2
  generalize hs : shortR o pa.word pb.word (decide (a = b)) (2 ^ n - 1) = s at k1 k2
  refine ⟨_, (pss_cons (ps_set (i := 5) sc_law_short.nd rfl (Or.inl rfl) (pe_tup (pa_cons pe_str (pa_cons pe_int pa_nil))))
       (Evl.pss_cut (ps_if (PW.pt (pw_or (pt_cmpR (op_eqD hr.units) (pe_ix ix_list (pv 0) (pv 3) (fun _ _ => rfl)) (pv 5) (nomark _)) (pw_or1 (pt_cmpR (op_eqD hr.units) (pe_ix ix_list (pv 0) (pv 4) (fun _ _ => rfl)) (pv 5) (nomark _)))))
        (pss_cons (ps_if (pt_cmpR op_in_seq (pv 2) (pe_tup (pa_cons pe_str (pa_cons pe_str (pa_cons pe_str pa_nil)))) (by rfl))
        (pss_cons (ps_if (pt_cmpR (op_eqD hr.units) (pe_ix ix_list (pv 0) (pv 3) (fun _ _ => rfl)) (pv 5) (nomark _))
        (pss_one (ps_ret (pv 4)))
        pss_nil)
       (pss_one (ps_ret (pv 3))))
        pss_nil)
       (pss_cons (ps_if (pt_cmpR op_eq (pv 2) pe_str (nomark _))
        (pss_one (ps_ret (pe_call G_law_keep hr rfl T.g_law_keep T.F_law_keep.kp T.b_law_keep .nil pass0 (pa_cons (pv 0) (pa_cons (pv 5) pa_nil)))))
        pss_nil)
       (pss_cons (ps_if (PW.pt (pw_and (pt_cmpR (op_eqD hr.units) (pe_ix ix_list (pv 0) (pv 4) (fun _ _ => rfl)) (pv 5) (nomark _)) (pw_and1 (pt_cmpR op_eq (pv 2) pe_str (nomark _)))))
        (pss_one (ps_ret (pv 3)))
        pss_nil)
       (pss_one (ps_if (PW.pt (pw_and (pt_cmpR (op_eqD hr.units) (pe_ix ix_list (pv 0) (pv 4) (fun _ _ => rfl)) (pv 5) (nomark _)) (pw_and1 (pt_cmpR op_eq (pv 2) pe_str (nomark _)))))
        (pss_one (ps_ret (pe_call G_law_keep hr rfl T.g_law_keep T.F_law_keep.kp T.b_law_keep .nil pass0 (pa_cons (pv 0) (pa_cons (pv 5) pa_nil)))))
        pss_nil)))))
        pss_nil)
       (Evl.pss_cut (ps_if (PW.pt (pw_and (pt_cmpR op_eq (pv 2) pe_str (nomark _)) (pw_and1 (pt_cmpR (op_eqD hr.units) (pe_ix ix_list (pv 0) (pv 3) (fun _ _ => rfl)) (pe_tup (pa_cons pe_str (pa_cons (pe_op op_sub (pe_op op_shl pe_int (pv 1)) pe_int) pa_nil))) (nomark _)))))
        (pss_one (ps_ret (pv 4)))
        pss_nil)
       (Evl.pss_cut (ps_if (PW.pt (pw_and (pt_cmpR op_eq (pv 2) pe_str (nomark _)) (pw_and1 (pt_cmpR (op_eqD hr.units) (pe_ix ix_list (pv 0) (pv 4) (fun _ _ => rfl)) (pe_tup (pa_cons pe_str (pa_cons (pe_op op_sub (pe_op op_shl pe_int (pv 1)) pe_int) pa_nil))) (nomark _)))))
        (pss_one (ps_ret (pv 3)))
        pss_nil)
       (pss_cons (ps_if (PW.pt (pw_and (pt_cmpR op_eq (pv 3) (pv 4) (nomark _)) (pw_and1 (pt_cmpR op_in_seq (pv 2) (pe_tup (pa_cons pe_str (pa_cons pe_str (pa_cons pe_str pa_nil)))) (by rfl)))))
        (pss_one (ps_ret (pe_call G_law_keep hr rfl T.g_law_keep T.F_law_keep.kp T.b_law_keep .nil pass0 (pa_cons (pv 0) (pa_cons (pv 5) pa_nil)))))
        pss_nil)
       (pss_cons (ps_if (PW.pt (pw_and (pt_cmpR op_eq (pv 3) (pv 4) (nomark _)) (pw_and1 (pt_cmpR op_in_seq (pv 2) (pe_tup (pa_cons pe_str (pa_cons pe_str pa_nil))) (by rfl)))))
        (pss_one (ps_ret (pv 3)))
        pss_nil)
       (pss_cons (ps_if (PW.pt (pw_and (pt_cmpR op_eq (pv 3) (pv 4) (nomark _)) (pw_and1 (pt_cmpR op_eq (pv 2) pe_str (nomark _)))))
        (pss_one (ps_ret (pe_call G_law_keep hr rfl T.g_law_keep T.F_law_keep.kp T.b_law_keep .nil pass0 (pa_cons (pv 0) (pa_cons (pe_tup (pa_cons pe_str (pa_cons pe_int pa_nil))) pa_nil)))))
        pss_nil)
       (pss_one (ps_ret (pe_un un_neg pe_int)))))))))), ?_⟩
  -- _law_zero = ('num', 0)
  refine ⟨by show 2 ≤ sizeLine; decide, fun z hz => ?_⟩
  have s1 := same_new (o := .tup [.str "num", .int 0]) hz
  have hz1 : upd H z (.tup [.str "num", .int 0]) z = some (.tup (Part.num 0).vals) := upd_same
  generalize hH1 : upd H z (.tup [.str "num", .int 0]) = H1 at *
  clear hH1
  have hL1 := s1 _ _ hL
  have hl1 := hl.news s1
  have ret1 : ∀ r : Sh, shortR o pa.word pb.word (decide (a = b)) (2 ^ n - 1) = r → r ≠ .no → LMade H1 l (fin ps o a b r) Q := fun r e ne => by
    rw [hs] at e; subst e; exact (k2 ne).news s1
  have eA := word_iff pa 0
  have eB := word_iff pb 0
  have hTa1 := s1 _ _ hTa
  have hTb1 := s1 _ _ hTb
  refine ⟨fun σ' H2 => Same H1 H2 ∧ σ' = [some (.ref l), some (.int (n : Nat)), some (.str o.s), some (.int (a : Nat)), some (.int (b : Nat)), some (.ref z)] ∧ shortR o pa.word pb.word (decide (a = b)) (2 ^ n - 1) = tailR o pa.word pb.word (decide (a = b)) (2 ^ n - 1) ∧
    (o = .and → ¬ pa = .num 0 ∧ ¬ pb = .num 0), ?_, ?_⟩
  · by_cases h : pa = .num 0 ∨ pb = .num 0
    · refine ⟨_, rfl, _, rfl, l, xs, _, _, rfl, rfl, SqL.of hL1, at_of rfl hta, _, rfl, eqT hTa1 hz1 ⟨_, rfl, ite2d (fun hA => iteP rfl ?_) fun hA => ?_⟩⟩
      rotate_left
      refine ⟨_, rfl, _, rfl, l, xs, _, _, rfl, rfl, SqL.of hL1, at_of rfl htb, _, rfl, eqT hTb1 hz1 ⟨_, rfl, iteP (dT (h.resolve_left hA)) ?_⟩⟩
      all_goals
        refine ⟨_, rfl, by show 3 ≤ sizeLine; decide, fun t ht => ?_⟩
        refine ⟨t, _, rfl, Or.inr (SqT.of upd_same), rfl, rfl, _, rfl, ?_⟩
        have s2 := same_new (o := .tup [.str "add", .str "or", .str "xor"]) ht
        generalize upd H1 t (.tup [.str "add", .str "or", .str "xor"]) = H2 at *
        have hL2 := s2 _ _ hL1
        have hl2 := hl1.news s2
        have hz2 := s2 _ _ hz1
        have hTa2 := s2 _ _ hTa1
        have hTb2 := s2 _ _ hTb1
        have ret2 : ∀ r : Sh, shortR o pa.word pb.word (decide (a = b)) (2 ^ n - 1) = r → r ≠ .no → LMade H2 l (fin ps o a b r) Q := fun r e ne => (ret1 r e ne).news s2
        have keep2 : LMade H2 l (mk ps (.num 0)) Q → sp_law_keep T [.ref l, .ref z] H2 Q E0 := fun m => ⟨l, z, ps, .num 0, rfl, hl2, hz2, hn, m⟩
        have done2 : shortR o pa.word pb.word (decide (a = b)) (2 ^ n - 1) = tailR o pa.word pb.word (decide (a = b)) (2 ^ n - 1) → (o = .and → False) → Same H1 H2 ∧ [some (V.ref l), some (.int (n : Nat)), some (.str o.s), some (.int (a : Nat)), some (.int (b : Nat)), some (.ref z)] = [some (.ref l), some (.int (n : Nat)), some (.str o.s), some (.int (a : Nat)), some (.int (b : Nat)), some (.ref z)] ∧ shortR o pa.word pb.word (decide (a = b)) (2 ^ n - 1) = tailR o pa.word pb.word (decide (a = b)) (2 ^ n - 1) ∧ (o = .and → ¬ pa = .num 0 ∧ ¬ pb = .num 0) :=
          fun e ne => ⟨s2, rfl, e, fun z => (ne z).elim⟩
        cases o
        case add =>
          refine iteP (in_mark (by decide +kernel)) ⟨_, rfl, _, rfl, l, xs, _, _, rfl, rfl, SqL.of hL2, at_of rfl hta, _, rfl, eqT hTa2 hz2 ⟨_, rfl, ite2d (fun e => ?_) fun e => ?_⟩⟩
          · exact ⟨_, rfl, ret2 .other (by simp [shortR, eA.mpr e]) (by decide) H2 hl2 fun b o e _ => e⟩
          · exact ⟨_, rfl, ret2 .one (by simp [shortR, eA, e, eB.mpr (h.resolve_left e)]) (by decide) H2 hl2 fun b o e _ => e⟩
        case or =>
          refine iteP (in_mark (by decide +kernel)) ⟨_, rfl, _, rfl, l, xs, _, _, rfl, rfl, SqL.of hL2, at_of rfl hta, _, rfl, eqT hTa2 hz2 ⟨_, rfl, ite2d (fun e => ?_) fun e => ?_⟩⟩
          · exact ⟨_, rfl, ret2 .other (by simp [shortR, eA.mpr e]) (by decide) H2 hl2 fun b o e _ => e⟩
          · exact ⟨_, rfl, ret2 .one (by simp [shortR, eA, e, eB.mpr (h.resolve_left e)]) (by decide) H2 hl2 fun b o e _ => e⟩
        case xor =>
          refine iteP (in_mark (by decide +kernel)) ⟨_, rfl, _, rfl, l, xs, _, _, rfl, rfl, SqL.of hL2, at_of rfl hta, _, rfl, eqT hTa2 hz2 ⟨_, rfl, ite2d (fun e => ?_) fun e => ?_⟩⟩
          · exact ⟨_, rfl, ret2 .other (by simp [shortR, eA.mpr e]) (by decide) H2 hl2 fun b o e _ => e⟩
          · exact ⟨_, rfl, ret2 .one (by simp [shortR, eA, e, eB.mpr (h.resolve_left e)]) (by decide) H2 hl2 fun b o e _ => e⟩
        case and =>
          refine iteN (nin_mark (by decide +kernel)) ⟨_, rfl, rfl, _, rfl, iteP (by decide +kernel) ⟨_, rfl, _, rfl, keep2 (ret2 .zero ?_ (by decide))⟩⟩
          rcases h with h | h
          · simp [shortR, shAnd, eA.mpr h]
          · simp [shortR, shAnd, eB.mpr h]
        case sub =>
          refine iteN (nin_mark (by decide +kernel)) ⟨_, rfl, rfl, _, rfl, iteN (by decide +kernel) ⟨_, rfl, _, rfl, l, xs, _, _, rfl, rfl, SqL.of hL2, at_of rfl htb, _, rfl, eqT hTb2 hz2 ⟨_, rfl, ite2d (fun e => ?_) fun e => ?_⟩⟩⟩
          · exact ⟨_, rfl, rfl, _, rfl, iteP (by decide +kernel) ⟨_, rfl, ret2 .one (by simp [shortR, eB.mpr e]) (by decide) H2 hl2 fun b o e _ => e⟩⟩
          · refine iteN (by decide) ⟨_, rfl, _, rfl, l, xs, _, _, rfl, rfl, SqL.of hL2, at_of rfl htb, _, rfl, eqT hTb2 hz2 ⟨_, rfl, iteN (dF e) (iteN (by decide) ?_)⟩⟩
            exact done2 (by simp [shortR, tailR, eB, e]) (by decide)
        case less =>
          refine iteN (nin_mark (by decide +kernel)) ⟨_, rfl, rfl, _, rfl, iteN (by decide +kernel) ⟨_, rfl, _, rfl, l, xs, _, _, rfl, rfl, SqL.of hL2, at_of rfl htb, _, rfl, eqT hTb2 hz2 ⟨_, rfl, ite2d (fun e => ?_) fun e => ?_⟩⟩⟩
          · refine ⟨_, rfl, rfl, _, rfl, iteN (by decide +kernel) ⟨_, rfl, _, rfl, l, xs, _, _, rfl, rfl, SqL.of hL2, at_of rfl htb, _, rfl, eqT hTb2 hz2 ⟨_, rfl, iteP (dT e) ⟨_, rfl, rfl, _, rfl, iteP (by decide +kernel) ?_⟩⟩⟩⟩
            exact ⟨_, rfl, _, rfl, keep2 (ret2 .zero (by simp [shortR, eB.mpr e]) (by decide))⟩
          · refine iteN (by decide) ⟨_, rfl, _, rfl, l, xs, _, _, rfl, rfl, SqL.of hL2, at_of rfl htb, _, rfl, eqT hTb2 hz2 ⟨_, rfl, iteN (dF e) (iteN (by decide) ?_)⟩⟩
            exact done2 (by simp [shortR, tailR, eB, e]) (by decide)
        case same =>
          refine iteN (nin_mark (by decide +kernel)) ⟨_, rfl, rfl, _, rfl, iteN (by decide +kernel) ⟨_, rfl, _, rfl, l, xs, _, _, rfl, rfl, SqL.of hL2, at_of rfl htb, _, rfl, eqT hTb2 hz2 ⟨_, rfl, ite2d (fun e => ?_) fun e => ?_⟩⟩⟩
          · refine ⟨_, rfl, rfl, _, rfl, iteN (by decide +kernel) ⟨_, rfl, _, rfl, l, xs, _, _, rfl, rfl, SqL.of hL2, at_of rfl htb, _, rfl, eqT hTb2 hz2 ⟨_, rfl, iteP (dT e) ⟨_, rfl, rfl, _, rfl, iteN (by decide +kernel) ?_⟩⟩⟩⟩
            exact done2 (by simp [shortR, tailR]) (by decide)
          · refine iteN (by decide) ⟨_, rfl, _, rfl, l, xs, _, _, rfl, rfl, SqL.of hL2, at_of rfl htb, _, rfl, eqT hTb2 hz2 ⟨_, rfl, iteN (dF e) (iteN (by decide) ?_)⟩⟩
            exact done2 (by simp [shortR, tailR]) (by decide)
    · have hA : ¬ pa = .num 0 := fun z => h (.inl z)
      have hB : ¬ pb = .num 0 := fun z => h (.inr z)
      refine ⟨_, rfl, _, rfl, l, xs, _, _, rfl, rfl, SqL.of hL1, at_of rfl hta, _, rfl, eqT hTa1 hz1 ⟨_, rfl, iteN (dF hA) ?_⟩⟩
      refine ⟨_, rfl, _, rfl, l, xs, _, _, rfl, rfl, SqL.of hL1, at_of rfl htb, _, rfl, eqT hTb1 hz1 ⟨_, rfl, iteN (dF hB) ?_⟩⟩
      refine ⟨Same.refl _, rfl, ?_, fun _ => ⟨hA, hB⟩⟩
      cases o <;> simp [shortR, tailR, shAnd, eA, eB, hA, hB]
  · rintro σ' H2 ⟨s2, rfl, e, hz0⟩
    have hL2 := s2 _ _ hL1
    have hl2 := hl1.news s2
    have hz2 := s2 _ _ hz1
    have hTa2 := s2 _ _ hTa1
    have hTb2 := s2 _ _ hTb1
    have ret2 : ∀ (r : Sh) (H3 : Hp), Same H2 H3 → tailR o pa.word pb.word (decide (a = b)) (2 ^ n - 1) = r → r ≠ .no → LMade H3 l (fin ps o a b r) Q := fun r H3 s3 q ne => (ret1 r (e.trans q) ne).news (s2.trans s3)
    have keep2 : ∀ (p : Part) (t : Addr) (H3 : Hp), Same H2 H3 → H3 t = some (.tup p.vals) → LMade H3 l (mk ps p) Q → sp_law_keep T [.ref l, .ref t] H3 Q E0 := fun p t H3 s3 ht m => ⟨l, t, ps, p, rfl, hl2.news s3, ht, hn, m⟩
    have no2 : ∀ H3 : Hp, Same H2 H3 → tailR o pa.word pb.word (decide (a = b)) (2 ^ n - 1) = .no → Q (.int (-1)) H3 := fun H3 s3 q => k1 (hs ▸ (e.trans q)) H3 (s1.trans (s2.trans s3))
    have pw : (1 : Int) * 2 ^ (n : Int).toNat - 1 = 2 ^ n - 1 := by rw [Int.one_mul, Int.toNat_natCast]
    have noand : o ≠ .and → ¬ decide (V.str o.s = V.str "and") = true := fun ho => dF fun z => ho (op_inj (o' := .and) (by injection z))
    refine ⟨fun σ' H3 => Same H2 H3 ∧ σ' = [some (.ref l), some (.int (n : Nat)), some (.str o.s), some (.int (a : Nat)), some (.int (b : Nat)), some (.ref z)] ∧ (o = .and → ¬ pa = .num (2 ^ n - 1)), ?_, ?_⟩
    · by_cases ho : o = .and
      · subst ho
        refine ⟨_, rfl, rfl, _, rfl, iteP (by decide +kernel) ?_⟩
        refine ⟨_, rfl, _, rfl, l, xs, _, _, rfl, rfl, SqL.of hL2, at_of rfl hta, _, rfl, _, _, rfl, rfl, cpow1 (by omega) (by omega), _, _, rfl, rfl, by show 2 ≤ sizeLine; decide, fun t ht => ?_⟩
        have s3 := same_new (o := .tup [.str "num", .int (1 * 2 ^ (n : Int).toNat - 1)]) ht
        have ht3 : upd H2 t (.tup [.str "num", .int (1 * 2 ^ (n : Int).toNat - 1)]) t = some (.tup (Part.num (2 ^ n - 1)).vals) := by rw [pw]; exact upd_same
        generalize upd H2 t (.tup [.str "num", .int (1 * 2 ^ (n : Int).toNat - 1)]) = H3 at *
        refine eqT (s3 _ _ hTa2) ht3 ⟨_, rfl, ite2d (fun e1 => ?_) fun e1 => ?_⟩
        · exact ⟨_, rfl, ret2 .other H3 s3 (by simp [tailR, (word_iff pa (2 ^ n - 1)).mpr e1]) (by decide) H3 (hl2.news s3) fun b o e _ => e⟩
        · exact ⟨s3, rfl, fun _ => e1⟩
      · exact ⟨_, rfl, rfl, _, rfl, iteN (noand ho) (iteN (by decide) ⟨Same.refl _, rfl, fun z => absurd z ho⟩)⟩
    rintro σ' H3 ⟨s3, rfl, m3⟩
    have hL3 := s3 _ _ hL2
    have hTb3 := s3 _ _ hTb2
    refine ⟨fun σ' H4 => Same H2 H4 ∧ σ' = [some (.ref l), some (.int (n : Nat)), some (.str o.s), some (.int (a : Nat)), some (.int (b : Nat)), some (.ref z)] ∧ (o = .and → ¬ pa = .num (2 ^ n - 1) ∧ ¬ pb = .num (2 ^ n - 1)), ?_, ?_⟩
    · by_cases ho : o = .and
      · subst ho
        refine ⟨_, rfl, rfl, _, rfl, iteP (by decide +kernel) ?_⟩
        refine ⟨_, rfl, _, rfl, l, xs, _, _, rfl, rfl, SqL.of hL3, at_of rfl htb, _, rfl, _, _, rfl, rfl, cpow1 (by omega) (by omega), _, _, rfl, rfl, by show 2 ≤ sizeLine; decide, fun t ht => ?_⟩
        have s4 := same_new (o := .tup [.str "num", .int (1 * 2 ^ (n : Int).toNat - 1)]) ht
        have ht4 : upd H3 t (.tup [.str "num", .int (1 * 2 ^ (n : Int).toNat - 1)]) t = some (.tup (Part.num (2 ^ n - 1)).vals) := by rw [pw]; exact upd_same
        generalize upd H3 t (.tup [.str "num", .int (1 * 2 ^ (n : Int).toNat - 1)]) = H4 at *
        refine eqT (s4 _ _ hTb3) ht4 ⟨_, rfl, ite2d (fun e1 => ?_) fun e1 => ?_⟩
        · have e0 : ¬ pa.word = some (2 ^ n - 1) := fun z => m3 rfl ((word_iff pa _).mp z)
          exact ⟨_, rfl, ret2 .one H4 (s3.trans s4) (by simp [tailR, e0, (word_iff pb (2 ^ n - 1)).mpr e1]) (by decide) H4 (hl2.news (s3.trans s4)) fun b o e _ => e⟩
        · exact ⟨s3.trans s4, rfl, fun _ => ⟨m3 rfl, e1⟩⟩
      · exact ⟨_, rfl, rfl, _, rfl, iteN (noand ho) (iteN (by decide) ⟨s3, rfl, fun z => absurd z ho⟩)⟩
    rintro σ' H4 ⟨s4, rfl, m4⟩
    have et : tailR o pa.word pb.word (decide (a = b)) (2 ^ n - 1) = if o = .and then (if a = b then .one else .no) else if a = b then shTwice o else .no := by
      by_cases ho : o = .and
      · have e1 : ¬ pa.word = some (2 ^ n - 1) := fun z => (m4 ho).1 ((word_iff pa _).mp z)
        have e2 : ¬ pb.word = some (2 ^ n - 1) := fun z => (m4 ho).2 ((word_iff pb _).mp z)
        by_cases hab : a = b <;> simp [tailR, ho, e1, e2, hab]
      · by_cases hab : a = b <;> simp [tailR, ho, hab]
    rw [et] at ret2 no2
    by_cases hab : a = b
    · rw [if_pos hab, if_pos hab] at ret2 no2
      have dab : decide (V.int ((a : Nat) : Int) = V.int ((b : Nat) : Int)) = true := dT (by rw [hab])
      refine ⟨_, rfl, _, rfl, rfl, _, rfl, iteP dab ⟨_, rfl, by show 3 ≤ sizeLine; decide, fun t ht => ⟨t, _, rfl, Or.inr (SqT.of upd_same), rfl, rfl, _, rfl, ?_⟩⟩⟩
      have s5 := s4.trans (same_new (o := .tup [.str "sub", .str "xor", .str "less"]) ht)
      generalize upd H4 t (.tup [.str "sub", .str "xor", .str "less"]) = H5 at *
      have z5 := s5 _ _ hz2
      cases o
      case sub => exact iteP (in_mark (by decide +kernel)) ⟨_, rfl, _, rfl, keep2 (.num 0) z H5 s5 z5 (ret2 .zero H5 s5 rfl (by decide))⟩
      case xor => exact iteP (in_mark (by decide +kernel)) ⟨_, rfl, _, rfl, keep2 (.num 0) z H5 s5 z5 (ret2 .zero H5 s5 rfl (by decide))⟩
      case less => exact iteP (in_mark (by decide +kernel)) ⟨_, rfl, _, rfl, keep2 (.num 0) z H5 s5 z5 (ret2 .zero H5 s5 rfl (by decide))⟩
      all_goals
        refine iteN (nin_mark (by decide +kernel)) ?_
        refine ⟨_, rfl, _, rfl, rfl, _, rfl, iteP dab ⟨_, rfl, by show 2 ≤ sizeLine; decide, fun t ht => ⟨t, _, rfl, Or.inr (SqT.of upd_same), rfl, rfl, _, rfl, ?_⟩⟩⟩
        have s6 := s5.trans (same_new (o := .tup [.str "and", .str "or"]) ht)
        generalize upd H5 t (.tup [.str "and", .str "or"]) = H6 at *
        have one6 := fun q ne => ret2 .one H6 s6 q ne H6 (hl2.news s6) fun b o e _ => e
      case and => exact iteP (in_mark (by decide +kernel)) ⟨_, rfl, one6 rfl (by decide)⟩
      case or => exact iteP (in_mark (by decide +kernel)) ⟨_, rfl, one6 rfl (by decide)⟩
      all_goals
        refine iteN (nin_mark (by decide +kernel)) ?_
      case add =>
        refine ⟨_, rfl, _, rfl, rfl, _, rfl, iteP dab ⟨_, rfl, rfl, _, rfl, iteN (by decide +kernel) ⟨_, rfl, no2 H6 s6 rfl⟩⟩⟩
      case same =>
        refine ⟨_, rfl, _, rfl, rfl, _, rfl, iteP dab ⟨_, rfl, rfl, _, rfl, iteP (by decide +kernel) ⟨_, rfl, by show 2 ≤ sizeLine; decide, fun t ht => ?_⟩⟩⟩
        have s7 := s6.trans (same_new (o := .tup [.str "num", .int 1]) ht)
        exact keep2 (.num 1) t _ s7 upd_same (ret2 .unit _ s7 rfl (by decide))
    · rw [if_neg hab, if_neg hab, ite_self] at ret2 no2
      have dab : ¬ decide (V.int ((a : Nat) : Int) = V.int ((b : Nat) : Int)) = true := dF fun z => hab (by injection z with z; exact Int.ofNat.inj z)
      refine ⟨_, rfl, _, rfl, rfl, _, rfl, iteN dab (iteN (by decide) ?_)⟩
      refine ⟨_, rfl, _, rfl, rfl, _, rfl, iteN dab (iteN (by decide) ?_)⟩
      refine ⟨_, rfl, _, rfl, rfl, _, rfl, iteN dab (iteN (by decide) ?_)⟩
      exact ⟨_, rfl, no2 H4 s4 rfl⟩
end
end My

/-! LC -/
namespace My
open PySem L2
local macro_rules | `(tactic| walk_at "side") => `(tactic| first | with_reducible rfl | assumption | rfl | decide | omega | exact cpow1 (by omega) (by omega) | exact cdiv (by omega) (by omega) | exact two_pos _ | exact SqL.of (by assumption) | exact SqT.of (by assumption) | exact TyX.base (TyOf.int _) | exact TyX.base (TyOf.bl _) | exact TyX.base TyOf.non | exact scal_opt _ _ | exact k_ii | exact k_bi | exact k_ni | exact k_ib | exact k_bb | exact TyX.base (TyOf.lst (by assumption)) | exact k_ll | exact k_lt)
local macro_rules | `(tactic| walk_at "p") => `(tactic| repeat (first | refine And.intro (by walk_at "side") ?_ | apply Exists.intro | refine iteN (by assumption) ?_ | refine iteP (by assumption) ?_ | refine iteN (by decide) ?_ | refine iteP (by decide) ?_))

section
variable {P : Program} {w : World} {K : PySem.W.Frag} {mg : Str → Option Value} {base : Heap}
def sp_law_apply (T : Txt K mg) : Sp := fun vs H Q _ => ∃ (l : Addr) (ps : List Part) (n : Nat) (o : Op) (a b : Nat), vs = [.ref l, .int n, .str o.s, .int a, .int b] ∧ LAt H l ps ∧ ps.length < 999 ∧ n ≤ 12 ∧ a < ps.length ∧ b < ps.length ∧ LMade H l (mApply n ps o a b) Q
theorem sp_law_apply_len {T : Txt K mg} {vs H Q E} (h : sp_law_apply T vs H Q E) : vs.length = 5 := by obtain ⟨_, _, _, _, _, _, rfl, _⟩ := h; rfl
def Part.tag : Part → Str | .num _ => "num" | .get _ => "get" | .op o _ _ => o.s
theorem tag0 (p : Part) : atI p.vals 0 = some (.str p.tag) := by cases p <;> rfl
theorem tag_num {p : Part} (h : p.tag = "num") : ∃ v, p = .num v := by
  cases p with
  | num v => exact ⟨v, rfl⟩
  | get i => exact absurd h (fun z => num_get z.symm)
  | op o a b => exact absurd h (op_ne_num o)
theorem tag_nonum {p : Part} (h : ¬ p.tag = "num") : p.word = none := by
  cases p with
  | num v => exact absurd rfl h
  | get i => rfl
  | op o a b => rfl
theorem mApply_fin {n : Nat} {ps : List Part} {o : Op} {a b : Nat} (h : wordOf ps a = none ∨ wordOf ps b = none) (c d : Nat) (hc : (c, d) = if either o = true ∧ b < a then (b, a) else (a, b)) :
    mApply n ps o a b = fin ps o c d (shortR o (wordOf ps c) (wordOf ps d) (decide (c = d)) (2 ^ n - 1)) := by
  unfold mApply
  split
  · rename_i x y ea eb
    rcases h with h | h
    · rw [h] at ea; cases ea
    · rw [h] at eb; cases eb
  · split
    · rename_i q
      rw [if_pos q] at hc
      cases hc
      rfl
    · rename_i q
      rw [if_neg q] at hc
      cases hc
      rfl
theorem ok_law_apply (T : Txt K mg) : FnOk P w K mg base CX0 3 T.f_law_apply T.fd_law_apply ["_law_parts", "_law_width", "_law_name", "_law_one", "_law_other"] (sp_law_apply T) := by
  have G_law_keep := ok_law_keep (P := P) (w := w) (base := base) T; have G_law_op := ok_law_op (P := P) (w := w) (base := base) T; have G_law_short := ok_law_short (P := P) (w := w) (base := base) T
  refine T.F_law_apply.ok sc_law_apply (fun vs H Q E h => sp_law_apply_len h) (fun cdv A outer s H vs Q E hr h => ?_)
  obtain ⟨l, ps, n, o, a, b, rfl, hl, hn, hw, ha, hb, k⟩ := h
  obtain ⟨xs, hL, ex, hit⟩ := hl.item
  obtain ⟨pa, hpa⟩ : ∃ p, ps[a]? = some p := ⟨_, List.getElem?_eq_getElem ha⟩
  obtain ⟨pb, hpb⟩ : ∃ p, ps[b]? = some p := ⟨_, List.getElem?_eq_getElem hb⟩
  obtain ⟨ta, hta, hTa⟩ := hit a pa hpa
  obtain ⟨tb, htb, hTb⟩ := hit b pb hpb
  refine ⟨_, (Evl.pss_cut (ps_if (PW.pt (pw_and (pt_cmpR op_eq (pe_ix ix_tup (pe_ix ix_list (pv 0) (pv 3) (fun _ _ => rfl)) pe_int (fun _ _ => rfl)) pe_str (nomark _)) (pw_and1 (pt_cmpR op_eq (pe_ix ix_tup (pe_ix ix_list (pv 0) (pv 4) (fun _ _ => rfl)) pe_int (fun _ _ => rfl)) pe_str (nomark _)))))
        (pss_one (ps_ret (pe_call G_law_keep (hr.mono (by decide)) rfl T.g_law_keep T.F_law_keep.kp T.b_law_keep .nil pass0 (pa_cons (pv 0) (pa_cons (pe_tup (pa_cons pe_str (pa_cons (pe_call G_law_op (hr.mono (by decide)) rfl T.g_law_op T.F_law_op.kp T.b_law_op .nil pass0 (pa_cons (pv 2) (pa_cons (pe_ix ix_tup (pe_ix ix_list (pv 0) (pv 3) (fun _ _ => rfl)) pe_int (fun _ _ => rfl)) (pa_cons (pe_ix ix_tup (pe_ix ix_list (pv 0) (pv 4) (fun _ _ => rfl)) pe_int (fun _ _ => rfl)) (pa_cons (pv 1) pa_nil))))) pa_nil))) pa_nil)))))
        pss_nil)
       (Evl.pss_cut (ps_if (PW.pt (pw_and (pt_cmpR op_gt (pv 3) (pv 4) (nomark _)) (pw_and1 (pt_cmpR op_in_seq (pv 2) (pe_tup (pa_cons pe_str (pa_cons pe_str (pa_cons pe_str (pa_cons pe_str (pa_cons pe_str pa_nil)))))) (by rfl)))))
        (pss_one (ps_par (i := 3) (j := 4) (by rfl) sc_law_apply.nd rfl rfl (by decide) rfl rfl (pa_cons (pv 4) (pa_cons (pv 3) pa_nil)) (by rfl)))
        pss_nil)
       (pss_cons (ps_set (i := 5) sc_law_apply.nd rfl (Or.inl rfl) (pe_call G_law_short hr rfl T.g_law_short T.F_law_short.kp T.b_law_short .nil pass0 (pa_cons (pv 0) (pa_cons (pv 1) (pa_cons (pv 2) (pa_cons (pv 3) (pa_cons (pv 4) pa_nil)))))))
       (pss_cons (ps_if (pt_cmpR op_ge (pv 5) pe_int (nomark _))
        (pss_one (ps_ret (pv 5)))
        pss_nil)
       (pss_one (ps_ret (pe_call G_law_keep (hr.mono (by decide)) rfl T.g_law_keep T.F_law_keep.kp T.b_law_keep .nil pass0 (pa_cons (pv 0) (pa_cons (pe_tup (pa_cons (pv 2) (pa_cons (pv 3) (pa_cons (pv 4) pa_nil)))) pa_nil))))))))), ?_⟩
  refine ⟨fun σ' H2 => H2 = H ∧ σ' = [some (.ref l), some (.int (n : Nat)), some (.str o.s), some (.int (a : Nat)), some (.int (b : Nat)), none] ∧ (pa.word = none ∨ pb.word = none), ?_, ?_⟩
  · refine ⟨_, rfl, _, rfl, l, xs, _, _, rfl, rfl, SqL.of hL, at_of rfl hta, ?_⟩
    refine ⟨ta, _, 0, _, rfl, rfl, SqT.of hTa, tag0 pa, rfl, _, rfl, ?_⟩
    by_cases ea : pa.tag = "num"
    · refine iteP (dT (by rw [ea])) ?_
      refine ⟨_, rfl, _, rfl, l, xs, _, _, rfl, rfl, SqL.of hL, at_of rfl htb, tb, _, 0, _, rfl, rfl, SqT.of hTb, tag0 pb, rfl, _, rfl, ?_⟩
      by_cases eb : pb.tag = "num"
      · refine iteP (dT (by rw [eb])) ?_
        obtain ⟨x, rfl⟩ := tag_num ea
        obtain ⟨y, rfl⟩ := tag_num eb
        refine ⟨_, rfl, _, rfl, _, rfl, _, rfl, l, xs, _, _, rfl, rfl, SqL.of hL, at_of rfl hta, ta, _, 1, _, rfl, rfl, SqT.of hTa, rfl, _, rfl, _, rfl, l, xs, _, _, rfl, rfl, SqL.of hL, at_of rfl htb, tb, _, 1, _, rfl, rfl, SqT.of hTb, rfl, _, rfl, ?_⟩
        have em : mApply n ps o a b = mk ps (.num (opI n o x y)) := by unfold mApply; rw [wordOf_at hpa, wordOf_at hpb]; rfl
        rw [em] at k
        refine ⟨o, x, y, n, rfl, hw, by show 2 ≤ sizeLine; decide, fun t ht => ?_⟩
        have s1 := same_new (o := .tup [.str "num", .int (opI n o x y)]) ht
        exact ⟨l, t, ps, .num (opI n o x y), rfl, hl.news s1, upd_same, by omega, k.news s1⟩
      · refine iteN (dF fun z => eb (by injection z)) ?_
        exact ⟨rfl, rfl, .inr (tag_nonum eb)⟩
    · refine iteN (dF fun z => ea (by injection z)) (iteN (by decide) ?_)
      exact ⟨rfl, rfl, .inl (tag_nonum ea)⟩
  · rintro σ' H2 ⟨rfl, rfl, hno⟩
    rw [← wordOf_at hpa, ← wordOf_at hpb] at hno
    refine ⟨fun σ' H3 => Same H2 H3 ∧ ∃ c d, (c, d) = (if either o = true ∧ b < a then (b, a) else (a, b)) ∧ σ' = [some (.ref l), some (.int (n : Nat)), some (.str o.s), some (.int (c : Nat)), some (.int (d : Nat)), none], ?_, ?_⟩
    · refine ⟨_, rfl, _, rfl, _, _, rfl, rfl, _, rfl, ?_⟩
      by_cases hba : b < a
      · refine iteP (dT (by omega)) ⟨_, rfl, by show 5 ≤ sizeLine; decide, fun t ht => ⟨t, _, rfl, Or.inr (SqT.of upd_same), rfl, rfl, _, rfl, ?_⟩⟩
        have s1 := same_new (o := .tup [.str "add", .str "and", .str "or", .str "xor", .str "same"]) ht
        generalize upd H2 t (.tup [.str "add", .str "and", .str "or", .str "xor", .str "same"]) = H3 at *
        cases o
        case sub => exact iteN (nin_mark (by decide +kernel)) ⟨s1, a, b, by rw [if_neg fun z => by cases z.1], rfl⟩
        case less => exact iteN (nin_mark (by decide +kernel)) ⟨s1, a, b, by rw [if_neg fun z => by cases z.1], rfl⟩
        all_goals exact iteP (in_mark (by decide +kernel)) ⟨_, rfl, _, rfl, _, _, rfl, s1, b, a, by rw [if_pos ⟨rfl, hba⟩], rfl⟩
      · refine iteN (dF (by omega)) (iteN (by decide) ?_)
        exact ⟨Same.refl _, a, b, by rw [if_neg fun z => hba z.2], rfl⟩
    · rintro σ' H3 ⟨s1, c, d, hcd, rfl⟩
      rw [mApply_fin hno c d hcd] at k
      have hc : c < ps.length := by split at hcd <;> (cases hcd; assumption)
      have hd : d < ps.length := by split at hcd <;> (cases hcd; assumption)
      refine ⟨_, rfl, _, rfl, _, rfl, _, rfl, _, rfl, ?_⟩
      have hl1 := hl.news s1
      refine ⟨l, ps, n, o, c, d, rfl, hl1, by omega, hw, hc, hd, fun e H4 s4 => ?_, fun ne H4 hl4 s4 => ?_⟩
      · rw [e] at k
        refine ⟨_, rfl, _, _, rfl, rfl, _, rfl, iteN (by decide) ?_⟩
        refine ⟨_, rfl, _, rfl, _, rfl, _, rfl, by show 3 ≤ sizeLine; decide, fun t ht => ?_⟩
        have s5 := same_new (o := .tup [.str o.s, .int (c : Nat), .int (d : Nat)]) ht
        exact ⟨l, t, ps, .op o c d, rfl, hl1.news (s4.trans s5), upd_same, by omega, k.news (s1.trans (s4.trans s5))⟩
      · refine ⟨_, rfl, _, _, rfl, rfl, _, rfl, iteP (dT (by omega)) ⟨_, rfl, ?_⟩⟩
        exact k H4 hl4 fun b o e h => s4 b o (s1 b o e) h
end
end My

/-! LD -/
namespace My
open PySem L2
local macro_rules | `(tactic| walk_at "side") => `(tactic| first | with_reducible rfl | assumption | rfl | decide | omega | exact cpow1 (by omega) (by omega) | exact cdiv (by omega) (by omega) | exact two_pos _ | exact SqL.of (by assumption) | exact SqT.of (by assumption) | exact TyX.base (TyOf.int _) | exact TyX.base (TyOf.bl _) | exact TyX.base TyOf.non | exact scal_opt _ _ | exact k_ii | exact k_bi | exact k_ni | exact k_ib | exact k_bb | exact TyX.base (TyOf.lst (by assumption)) | exact k_ll | exact k_lt)
local macro_rules | `(tactic| walk_at "p") => `(tactic| repeat (first | refine And.intro (by walk_at "side") ?_ | apply Exists.intro | refine iteN (by assumption) ?_ | refine iteP (by assumption) ?_ | refine iteN (by decide) ?_ | refine iteP (by decide) ?_))

section
variable {P : Program} {w : World} {K : PySem.W.Frag} {mg : Str → Option Value} {base : Heap}
theorem tag_get {p : Part} (h : p.tag = "get") : ∃ v, p = .get v := by
  cases p with
  | num v => exact absurd h num_get
  | get i => exact ⟨i, rfl⟩
  | op o a b => exact absurd h (op_ne_get o)
theorem op_tag (o : Op) : ¬ decide (V.str o.s = V.str "get") = true ∧ ¬ decide (V.str o.s = V.str "num") = true := ⟨op_get_f o, op_num_f o⟩
theorem num_get_f : ¬ decide (V.str (Str.ofString "num") = V.str "get") = true := by decide +kernel
def sp_law_part (T : Txt K mg) : Sp := fun vs H Q _ => ∃ (l t L : Addr) (ps : List Part) (n : Nat) (r : Part) (pl : List Nat), vs = [.ref l, .int n, .ref t, .ref L] ∧ LAt H l ps ∧ ps.length < 999 ∧ n ≤ 12 ∧ H t = some (.tup r.vals) ∧ H L = some (.lst (natL pl)) ∧ RowIn n ps r pl ∧ LMade H l (mPart n ps r pl) Q
theorem sp_law_part_len {T : Txt K mg} {vs H Q E} (h : sp_law_part T vs H Q E) : vs.length = 4 := by obtain ⟨_, _, _, _, _, _, _, rfl, _⟩ := h; rfl
theorem ok_law_part (T : Txt K mg) : FnOk P w K mg base CX0 4 T.f_law_part T.fd_law_part ["_law_parts", "_law_width", "_law_row", "_law_places"] (sp_law_part T) := by
  have G_law_apply := ok_law_apply (P := P) (w := w) (base := base) T; have G_law_keep := ok_law_keep (P := P) (w := w) (base := base) T
  refine T.F_law_part.ok sc_law_part (fun vs H Q E h => sp_law_part_len h) (fun cdv A outer s H vs Q E hr h => ?_)
  obtain ⟨l, t, L, ps, n, r, pl, rfl, hl, hn, hw, ht, hL, hR, k⟩ := h
  refine ⟨_, (pss_cons (ps_if (PW.pt (pw_or (pt_cmpR op_eq (pe_ix ix_tup (pv 2) pe_int (fun _ _ => rfl)) pe_str (nomark _)) (pw_or1 (pt_cmpR op_eq (pe_ix ix_tup (pv 2) pe_int (fun _ _ => rfl)) pe_str (nomark _)))))
        (pss_one (ps_ret (pe_call G_law_keep (hr.mono (by decide)) rfl T.g_law_keep T.F_law_keep.kp T.b_law_keep .nil pass0 (pa_cons (pv 0) (pa_cons (pe_tup (pa_cons (pe_ix ix_tup (pv 2) pe_int (fun _ _ => rfl)) (pa_cons (pe_ix ix_tup (pv 2) pe_int (fun _ _ => rfl)) pa_nil))) pa_nil)))))
        pss_nil)
       (pss_one (ps_ret (pe_call G_law_apply hr rfl T.g_law_apply T.F_law_apply.kp T.b_law_apply .nil pass0 (pa_cons (pv 0) (pa_cons (pv 1) (pa_cons (pe_ix ix_tup (pv 2) pe_int (fun _ _ => rfl)) (pa_cons (pe_ix ix_list (pv 3) (pe_ix ix_tup (pv 2) pe_int (fun _ _ => rfl)) (fun _ _ => rfl)) (pa_cons (pe_ix ix_list (pv 3) (pe_ix ix_tup (pv 2) pe_int (fun _ _ => rfl)) (fun _ _ => rfl)) pa_nil))))))))), ?_⟩
  have sz : (2 : Nat) ≤ sizeLine := by show 2 ≤ sizeLine; decide
  have keep : ∀ q : Addr, H q = none → ∀ x : Part, x.vals.length = 2 → mPart n ps r pl = mk ps x → sp_law_keep T [.ref l, .ref q] (upd H q (.tup x.vals)) Q E0 := fun q hq x _ e => by
    rw [e] at k
    exact ⟨l, q, ps, x, rfl, hl.news (same_new hq), upd_same, by omega, k.news (same_new hq)⟩
  refine ⟨_, rfl, t, _, 0, _, rfl, rfl, SqT.of ht, tag0 r, rfl, _, rfl, ?_⟩
  cases r with
  | get i =>
    refine iteP (dT rfl) (iteP rfl ?_)
    exact ⟨_, rfl, _, rfl, t, _, 0, _, rfl, rfl, SqT.of ht, rfl, _, rfl, t, _, 1, _, rfl, rfl, SqT.of ht, rfl, sz, fun q hq => keep q hq (.get i) rfl rfl⟩
  | num i =>
    refine iteN num_get_f ?_
    refine ⟨_, rfl, t, _, 0, _, rfl, rfl, SqT.of ht, rfl, rfl, _, rfl, iteP (dT rfl) ?_⟩
    exact ⟨_, rfl, _, rfl, t, _, 0, _, rfl, rfl, SqT.of ht, rfl, _, rfl, t, _, 1, _, rfl, rfl, SqT.of ht, rfl, sz, fun q hq => keep q hq (.num i) rfl rfl⟩
  | op o a b =>
    obtain ⟨ha, hb⟩ := hR.ahead o a b rfl
    refine iteN (op_get_f o) ?_
    refine ⟨_, rfl, t, _, 0, _, rfl, rfl, SqT.of ht, rfl, rfl, _, rfl, iteN (op_num_f o) ?_⟩
    refine ⟨_, rfl, _, rfl, _, rfl, t, _, 0, _, rfl, rfl, SqT.of ht, rfl, _, rfl, _, rfl, t, _, 1, _, rfl, rfl, SqT.of ht, rfl, L, _, _, _, rfl, rfl, SqL.of hL, natL_at ha, _, rfl, _, rfl, t, _, 2, _, rfl, rfl, SqT.of ht, rfl, L, _, _, _, rfl, rfl, SqL.of hL, natL_at hb, ?_⟩
    exact ⟨l, ps, n, o, _, _, rfl, hl, hn, hw, hR.at ha, hR.at hb, k⟩
def sp_law_asked (T : Txt K mg) : Sp := fun vs H Q _ => ∃ (a l d t L : Addr) (ps : List Part) (n : Nat) (r : Part) (pl : List Nat), vs = [.ref a, .ref t, .ref L] ∧ PoolAt T.C H a l d n ps ∧ ps.length < 3999 ∧ n ≤ 12 ∧ H t = some (.tup r.vals) ∧ H L = some (.lst (natL pl)) ∧ RowIn n ps r pl ∧ Made T.C H a l d n (mPart n ps r pl) Q
theorem sp_law_asked_len {T : Txt K mg} {vs H Q E} (h : sp_law_asked T vs H Q E) : vs.length = 3 := by obtain ⟨_, _, _, _, _, _, _, _, _, rfl, _⟩ := h; rfl
theorem ok_law_asked (T : Txt K mg) : FnOk P w K mg base (L2.CX P w) 5 T.f_law_asked T.fd_law_asked ["_law_pool", "_law_row", "_law_places"] (sp_law_asked T) := by
  have G_p_apply := ok_p_apply (P := P) (w := w) (base := base) T; have G_p_num := ok_p_num (P := P) (w := w) (base := base) T; have G_p_unknown := ok_p_unknown (P := P) (w := w) (base := base) T; have G_TooMany_init := ok_TooMany_init (P := P) (w := w) (base := base) T
  refine T.F_law_asked.okX sc_law_asked (fun vs H Q E h => sp_law_asked_len h) (fun cdv A outer s H vs Q E hr h => ?_)
  obtain ⟨a, l, d, t, L, ps, n, r, pl, rfl, hp, hn, hw, ht, hL, hR, k⟩ := h
  obtain ⟨dx, ho⟩ := id hp.ob
  refine ⟨_, (pss_cons (ps_if (pt_cmpR op_eq (pe_ix ix_tup (pv 1) pe_int (fun _ _ => rfl)) pe_str (nomark _))
        (pss_one (ps_ret (pe_meth (pv 0) T.cl T.m_p_unknown G_p_unknown hr T.b_p_unknown .nil (passes_call (takes_of rfl rfl rfl rfl) (fun _ _ _ _ h => h)) (pa_cons (pe_ix ix_tup (pv 1) pe_int (fun _ _ => rfl)) pa_nil))))
        pss_nil)
       (pss_cons (ps_if (pt_cmpR op_eq (pe_ix ix_tup (pv 1) pe_int (fun _ _ => rfl)) pe_str (nomark _))
        (pss_one (ps_ret (pe_meth (pv 0) T.cl T.m_p_num G_p_num hr T.b_p_num .nil (passes_call (takes_of rfl rfl rfl rfl) (fun _ _ _ _ h => h)) (pa_cons (pe_ix ix_tup (pv 1) pe_int (fun _ _ => rfl)) pa_nil))))
        pss_nil)
       (pss_one (ps_ret (pe_meth (pv 0) T.cl T.m_p_apply G_p_apply hr T.b_p_apply .nil (passes_call (takes_of rfl rfl rfl rfl) (fun _ _ _ _ h => h)) (pa_cons (pe_ix ix_tup (pv 1) pe_int (fun _ _ => rfl)) (pa_cons (pe_ix ix_list (pv 2) (pe_ix ix_tup (pv 1) pe_int (fun _ _ => rfl)) (fun _ _ => rfl)) (pa_cons (pe_ix ix_list (pv 2) (pe_ix ix_tup (pv 1) pe_int (fun _ _ => rfl)) (fun _ _ => rfl)) pa_nil)))))))), ?_⟩
  refine ⟨_, rfl, t, _, 0, _, rfl, rfl, SqT.of ht, tag0 r, rfl, _, rfl, ?_⟩
  cases r with
  | get i =>
    have hi := hR.ok
    refine iteP (dT rfl) ?_
    refine ⟨_, rfl, a, dx, _, rfl, ho, no_meth (by decide +kernel), _, rfl, t, _, 1, _, rfl, rfl, SqT.of ht, rfl, ?_⟩
    exact ⟨a, l, d, n, ps, i, rfl, hp, by omega, hi.1, hi.2, k.x (Nat.le_trans (mk_len _ _) (by omega))⟩
  | num i =>
    have hi : 0 ≤ i ∧ i < 2 ^ n := hR.ok
    refine iteN num_get_f ?_
    refine ⟨_, rfl, t, _, 0, _, rfl, rfl, SqT.of ht, rfl, rfl, _, rfl, iteP (dT rfl) ?_⟩
    refine ⟨_, rfl, a, dx, _, rfl, ho, no_meth (by decide +kernel), _, rfl, t, _, 1, _, rfl, rfl, SqT.of ht, rfl, ?_⟩
    exact ⟨a, l, d, n, ps, i, rfl, hp, by omega, hi.1, by omega, k.x (Nat.le_trans (mk_len _ _) (by omega))⟩
  | op o x y =>
    obtain ⟨hx, hy⟩ := hR.ahead o x y rfl
    refine iteN (op_get_f o) ?_
    refine ⟨_, rfl, t, _, 0, _, rfl, rfl, SqT.of ht, rfl, rfl, _, rfl, iteN (op_num_f o) ?_⟩
    refine ⟨_, rfl, a, dx, _, rfl, ho, no_meth (by decide +kernel), _, rfl, t, _, 0, _, rfl, rfl, SqT.of ht, rfl, _, rfl, _, rfl, t, _, 1, _, rfl, rfl, SqT.of ht, rfl, L, _, _, _, rfl, rfl, SqL.of hL, natL_at hx, _, rfl, _, rfl, t, _, 2, _, rfl, rfl, SqT.of ht, rfl, L, _, _, _, rfl, rfl, SqL.of hL, natL_at hy, ?_⟩
    exact ⟨a, l, d, n, ps, o, _, _, rfl, hp, by omega, hw, hR.at hx, hR.at hy, k.x (Nat.le_trans (mApply_len _ _ _ _ _) (by omega))⟩
end
end My

/-! LE -/
namespace My
open PySem L2
local macro_rules | `(tactic| walk_at "side") => `(tactic| first | with_reducible rfl | assumption | rfl | decide | omega | exact cpow1 (by omega) (by omega) | exact cdiv (by omega) (by omega) | exact two_pos _ | exact SqL.of (by assumption) | exact SqT.of (by assumption) | exact TyX.base (TyOf.int _) | exact TyX.base (TyOf.bl _) | exact TyX.base TyOf.non | exact scal_opt _ _ | exact k_ii | exact k_bi | exact k_ni | exact k_ib | exact k_bb | exact TyX.base (TyOf.lst (by assumption)) | exact k_ll | exact k_lt)
local macro_rules | `(tactic| walk_at "p") => `(tactic| repeat (first | refine And.intro (by walk_at "side") ?_ | apply Exists.intro | refine iteN (by assumption) ?_ | refine iteP (by assumption) ?_ | refine iteN (by decide) ?_ | refine iteP (by decide) ?_))

section
variable {P : Program} {w : World} {K : PySem.W.Frag} {mg : Str → Option Value} {base : Heap}
def sp_law_reach (T : Txt K mg) : Sp := fun vs H Q _ => ∃ (l L : Addr) (ps : List Part) (S : List Nat), vs = [.ref l, .ref L] ∧ LAt H l ps ∧ WF ps ∧ ps.length ≤ 1000 ∧ H L = some (.lst (natL S)) ∧ (∀ i ∈ S, i < ps.length) ∧
  ∀ (H' : Hp) (ks : List Nat) (t : Addr), ReachLS ps S ks → Same H H' → H t = none → H' t = some (.lst (natL ks)) → Q (.ref t) H'
theorem sp_law_reach_len {T : Txt K mg} {vs H Q E} (h : sp_law_reach T vs H Q E) : vs.length = 2 := by obtain ⟨_, _, _, _, rfl, _⟩ := h; rfl
theorem ok_law_reach (T : Txt K mg) : FnOk P w K mg base CX0 1 T.f_law_reach T.fd_law_reach ["_law_parts", "_law_numbers"] (sp_law_reach T) := by
  skip
  refine T.F_law_reach.ok sc_law_reach (fun vs H Q E h => sp_law_reach_len h) (fun cdv A outer s H vs Q E hr h => ?_)
  obtain ⟨l, L, ps, S, rfl, hl, wf, h60, hL, hS, k⟩ := h
  obtain ⟨xs, hX, ex, hit⟩ := hl.item
  refine ⟨_, (pss_cons (ps_set (i := 2) sc_law_reach.nd rfl (Or.inr rfl) (pe_lc (own := [("_law_part_here", 6)]) (g := gName 6) (tt := tYes) rfl sc_law_reach.nd (pi_list (pv 0)) (blkOk_by (N := ["_law_parts", "_law_numbers", "_law_marks", "_law_number", "_law_back", "_law_at", "_law_part_here"]) (sc := defScope s_law_reach) (by decide +kernel)) (fun _ _ _ _ _ => by exact pg_name (i := 6) sc_law_reach.nd rfl (Or.inl rfl)) (fun _ _ _ _ _ => by exact pts_nil) (fun _ _ _ _ _ => by exact pe_bl)))
       (pss_cons (ps_for PassesOwn.never rfl (pi_list (pv 1)) (pg_name (i := 3) sc_law_reach.nd rfl (Or.inl rfl))
        (pss_one (ps_asg pe_bl (pg_sub (pv 2) (pv 3) set_list))))
       (pss_cons (ps_for PassesOwn.never rfl (pi_range1 (by rfl) T.n_range (pa_cons (pe_callB call_lenL (by rfl) T.n_len (by decide +kernel) (pa_cons (pv 0) pa_nil)) pa_nil)) (pg_name (i := 4) sc_law_reach.nd rfl (Or.inl rfl))
        (pss_cons (ps_set (i := 5) sc_law_reach.nd rfl (Or.inl rfl) (pe_op op_sub (pe_op op_sub (pe_callB call_lenL (by rfl) T.n_len (by decide +kernel) (pa_cons (pv 0) pa_nil)) pe_int) (pv 4)))
       (pss_one (ps_if (PW.pt (pw_and (pt_val (pe_ix ix_list (pv 2) (pv 5) (fun _ _ => rfl))) (pw_and1 (pt_cmpR op_eq (pe_callB call_lenT (by rfl) T.n_len (by decide +kernel) (pa_cons (pe_ix ix_list (pv 0) (pv 5) (fun _ _ => rfl)) pa_nil)) pe_int (nomark _)))))
        (pss_cons (ps_asg pe_bl (pg_sub (pv 2) (pe_ix ix_tup (pe_ix ix_list (pv 0) (pv 5) (fun _ _ => rfl)) pe_int (fun _ _ => rfl)) set_list))
       (pss_one (ps_asg pe_bl (pg_sub (pv 2) (pe_ix ix_tup (pe_ix ix_list (pv 0) (pv 5) (fun _ _ => rfl)) pe_int (fun _ _ => rfl)) set_list))))
        pss_nil))))
       (pss_one (ps_ret (pe_lc (te := tVar 5) (own := [("_law_at", 5)]) (g := gName 5) (tt := (tTest (tOp (rIxL K) (tVar 2) (tVar 5)))) rfl sc_law_reach.nd (pi_range1 (by rfl) T.n_range (pa_cons (pe_callB call_lenL (by rfl) T.n_len (by decide +kernel) (pa_cons (pv 0) pa_nil)) pa_nil)) (blkOk_by (N := ["_law_parts", "_law_numbers", "_law_marks", "_law_number", "_law_back", "_law_at", "_law_part_here"]) (sc := defScope s_law_reach) (by decide +kernel)) (fun _ _ _ _ _ => by exact pg_name (i := 5) sc_law_reach.nd rfl (Or.inl rfl)) (fun _ _ _ _ _ => by exact (pts_one (pt_val (pe_ix ix_list (pv 2) (pv 5) (fun _ _ => rfl))))) (fun _ _ _ _ _ => by exact (pv 5)))))))), ?_⟩
  have sz : sizeLine = 16777216 := sizeLine_eq
  -- marks = [False for ..]
  refine ⟨_, rfl, l, rfl, ⟨_, SqL.of hX⟩, fun D hD => ?_⟩
  have LD : L ≠ D := ne_of_none hL hD
  refine lc_list (K := K) (a := l) (xs := xs) (fun j H2 => Same H H2 ∧ H2 D = some (.lst ((List.replicate j false).map V.bl))) ⟨same_new hD, upd_same⟩ (fun j H2 _ ⟨s2, _⟩ => SqL.of (s2 _ _ hX)) ?_ ?_
  · rintro j x H2 hj ⟨s2, h2⟩
    have hjl := (List.getElem?_eq_some_iff.mp hj).1
    refine ⟨rfl, yesT (iteP rfl ⟨_, h2, by simp; omega, fun b o e => ?_, ?_⟩)⟩
    · rw [upd_ne (ne_of_none e hD)]; exact s2 _ _ e
    · rw [upd_same, List.replicate_succ', List.map_append]; rfl
  rintro H2 ⟨s2, h2⟩
  rw [ex] at h2
  -- for number in numbers
  refine ⟨_, rfl, L, rfl, ⟨_, SqL.of (s2 _ _ hL)⟩, ?_⟩
  refine for_list (K := K) (a := L) (xs := natL S) (fun j σ' H3 => ∃ v3 : Option V, σ' = [some (.ref l), some (.ref L), some (.ref D), v3, none, none, none] ∧ Same H H3 ∧ H3 D = some (.lst ((marks ps.length (S.take j)).map V.bl))) ⟨none, rfl, s2, h2⟩ ?_ ?_ ?_
  · rintro j σ' H3 _ ⟨_, _, s3, _⟩
    exact SqL.of (s3 _ _ hL)
  · rintro j x σ' H3 hj ⟨v3, rfl, s3, h3⟩
    obtain ⟨i, hi, rfl⟩ := natL_get hj
    have hiN := hS i (List.mem_of_getElem? hi)
    refine ⟨_, rfl, _, rfl, D, _, _, i, rfl, rfl, h3, ixN_nat (by rw [List.length_map, marks_len]; exact hiN), some (.int (i : Nat)), rfl, fun b o e => ?_, ?_⟩
    · rw [upd_ne (ne_of_none e hD)]; exact s3 _ _ e
    · rw [upd_same, take_snoc hi, marks_snoc, List.map_set]
  rintro σ' H3 ⟨v3, rfl, s3, h3⟩
  rw [natL_len, List.take_length] at h3
  -- from the back
  refine ⟨_, rfl, l, xs, rfl, SqL.of (s3 _ _ hX), _, rfl, by omega, by omega, ?_⟩
  refine for_range (lo := 0) (n := ((xs.length : Nat) : Int).toNat) (fun j σ' H4 => ∃ (v4 v5 : Option V) (m : List Bool), σ' = [some (.ref l), some (.ref L), some (.ref D), v3, v4, v5, none] ∧ Same H H4 ∧ H4 D = some (.lst (m.map V.bl)) ∧ MInvS ps S m j) ⟨none, none, _, rfl, s3, h3, MInvS.start hS⟩ ?_ ?_
  · rintro j σ' H4 hj ⟨v4, v5, m, rfl, s4, h4, mi⟩
    rw [Int.toNat_natCast, ex] at hj
    obtain ⟨at_, eat⟩ : ∃ at_, at_ + j + 1 = ps.length := ⟨ps.length - j - 1, by omega⟩
    obtain ⟨p, hp⟩ : ∃ p, ps[at_]? = some p := ⟨_, List.getElem?_eq_getElem (by omega)⟩
    obtain ⟨u, hu, hU⟩ := hit at_ p hp
    have hU4 := s4 _ _ hU
    obtain ⟨b, hb⟩ : ∃ b, m[at_]? = some b := ⟨_, List.getElem?_eq_getElem (by rw [mi.len]; omega)⟩
    refine ⟨_, rfl, l, xs, rfl, SqL.of (s4 _ _ hX), _, _, rfl, rfl, _, rfl, _, _, rfl, rfl, ?_⟩
    have ei : ((xs.length : Nat) : Int) - 1 - (0 + (j : Nat)) = (at_ : Nat) := by omega
    refine ⟨_, rfl, _, rfl, D, _, _, .bl b, rfl, rfl, SqL.of h4, at_of (j := at_) ei (by rw [List.getElem?_map, hb]; rfl), b, rfl, ?_⟩
    cases b with
    | false =>
      refine iteN (by decide) (iteN (by decide) ?_)
      exact ⟨_, _, m, rfl, s4, h4, mi.skip eat fun z => by rw [hb] at z; cases z⟩
    | true =>
      refine iteP rfl ?_
      refine ⟨_, rfl, _, rfl, l, xs, _, _, rfl, rfl, SqL.of (s4 _ _ hX), at_of (j := at_) ei hu, u, _, rfl, SqT.of hU4, rfl, _, rfl, ?_⟩
      cases p with
      | num v => exact iteN (by simp [Part.vals]) ⟨_, _, m, rfl, s4, h4, mi.skip eat fun _ o a b e => by rw [hp] at e; cases e⟩
      | get v => exact iteN (by simp [Part.vals]) ⟨_, _, m, rfl, s4, h4, mi.skip eat fun _ o a b e => by rw [hp] at e; cases e⟩
      | op o x y =>
        have xy := wf _ _ _ _ hp
        refine iteP (dT rfl) ?_
        have hX4 := s4 _ _ hX
        have lD : l ≠ D := ne_of_none hX hD
        have uD : u ≠ D := ne_of_none hU hD
        refine ⟨_, rfl, _, rfl, _, rfl, l, xs, _, _, rfl, rfl, SqL.of hX4, at_of (j := at_) ei hu, u, _, 1, _, rfl, rfl, SqT.of hU4, rfl, D, _, _, x, rfl, rfl, h4, ixN_nat (by rw [List.length_map, mi.len]; omega), ?_⟩
        rw [← List.map_set (f := V.bl) (l := m) (a := true)]
        have hX5 : upd H4 D (.lst ((m.set x true).map V.bl)) l = some (.lst xs) := by rw [upd_ne lD]; exact hX4
        have hU5 : upd H4 D (.lst ((m.set x true).map V.bl)) u = some (.tup (Part.op o x y).vals) := by rw [upd_ne uD]; exact hU4
        refine ⟨_, rfl, _, rfl, _, rfl, l, xs, _, _, rfl, rfl, SqL.of hX5, at_of (j := at_) ei hu, u, _, 2, _, rfl, rfl, SqT.of hU5, rfl, D, _, _, y, rfl, rfl, upd_same, ixN_nat (by rw [List.length_map, List.length_set, mi.len]; omega), ?_⟩
        rw [← List.map_set (f := V.bl) (a := true)]
        refine ⟨_, _, _, rfl, fun b o e => ?_, upd_same, mi.mark wf eat hb hp⟩
        rw [upd_ne (ne_of_none e hD), upd_ne (ne_of_none e hD)]; exact s4 _ _ e
  rintro σ' H4 ⟨v4, v5, m, rfl, s4, h4, mi⟩
  rw [Int.toNat_natCast, ex] at mi
  -- the row of what is marked
  refine ⟨_, rfl, l, xs, rfl, SqL.of (s4 _ _ hX), _, rfl, by omega, by omega, fun G hG => ?_⟩
  have DG : D ≠ G := ne_of_none h4 hG
  refine lc_range (lo := 0) (n := ((xs.length : Nat) : Int).toNat) (fun j H5 => Same H4 H5 ∧ H5 G = some (.lst (natL (markL m j)))) ⟨same_new hG, upd_same⟩ ?_ ?_
  · rintro j H5 hj ⟨s5, h5⟩
    rw [Int.toNat_natCast, ex] at hj
    obtain ⟨b, hb⟩ : ∃ b, m[j]? = some b := ⟨_, List.getElem?_eq_getElem (by rw [mi.len]; omega)⟩
    refine ⟨rfl, _, rfl, _, rfl, D, _, _, .bl b, rfl, rfl, SqL.of (s5 _ _ h4), at_of (j := j) (by omega) (by rw [List.getElem?_map, hb]; rfl), b, rfl, ?_⟩
    cases b with
    | false => exact iteN (by decide) ⟨s5, by rw [markL_no (by rw [hb]; simp)]; exact h5⟩
    | true =>
      refine iteP rfl ⟨_, rfl, _, h5, by rw [natL_len]; have := markL_len m j; omega, fun b o e => ?_, ?_⟩
      · rw [upd_ne (ne_of_none e hG)]; exact s5 _ _ e
      · rw [upd_same, markL_yes hb]
        unfold natL
        rw [List.map_append, Int.zero_add]; rfl
  rintro H5 ⟨s5, h5⟩
  rw [Int.toNat_natCast, ex] at h5
  exact k H5 _ G (mi.done wf hS) (s4.trans s5) (s4.free hG) h5
def sp_law_gets (T : Txt K mg) : Sp := fun vs H Q _ => ∃ (l L : Addr) (ps : List Part) (S : List Nat), vs = [.ref l, .ref L] ∧ LAt H l ps ∧ WF ps ∧ ps.length ≤ 1000 ∧ H L = some (.lst (natL S)) ∧ (∀ i ∈ S, i < ps.length) ∧
  ∀ (H' : Hp) (ks : List Nat) (ns : List Int) (t : Addr), ReachLS ps S ks → ns.Perm (getsOf ps ks) → ns.Pairwise (· ≤ ·) → Same H H' → H t = none → H' t = some (.lst (ns.map V.int)) → Q (.ref t) H'
theorem sp_law_gets_len {T : Txt K mg} {vs H Q E} (h : sp_law_gets T vs H Q E) : vs.length = 2 := by obtain ⟨_, _, _, _, rfl, _⟩ := h; rfl
theorem ok_law_gets (T : Txt K mg) : FnOk P w K mg base CX0 2 T.f_law_gets T.fd_law_gets ["_law_parts", "_law_numbers"] (sp_law_gets T) := by
  have G_law_reach := ok_law_reach (P := P) (w := w) (base := base) T
  refine T.F_law_gets.ok sc_law_gets (fun vs H Q E h => sp_law_gets_len h) (fun cdv A outer s H vs Q E hr h => ?_)
  obtain ⟨l, L, ps, S, rfl, hl, wf, h60, hL, hS, k⟩ := h
  obtain ⟨xs, hX, ex, hit⟩ := hl.item
  refine ⟨_, (pss_one (ps_ret (pe_callB cr_sortedI (by rfl) T.n_sorted (by decide +kernel) (pa_cons (pe_lc (te := tOp (rIxT K) (tOp (rIxL K) (tVar 0) (tVar 2)) (tC (.int 1))) (own := [("_law_at", 2)]) (g := gName 2) (tt := (tTest (tOp rEq (tOp (rIxT K) (tOp (rIxL K) (tVar 0) (tVar 2)) (tC (.int 0))) (tC (.str "get"))))) rfl sc_law_gets.nd (pi_list (pe_call G_law_reach hr rfl T.g_law_reach T.F_law_reach.kp T.b_law_reach .nil pass0 (pa_cons (pv 0) (pa_cons (pv 1) pa_nil)))) (blkOk_by (N := ["_law_parts", "_law_numbers", "_law_at"]) (sc := defScope s_law_gets) (by decide +kernel)) (fun _ _ _ _ _ => by exact pg_name (i := 2) sc_law_gets.nd rfl (Or.inl rfl)) (fun _ _ _ _ _ => by exact (pts_one (pt_cmpR op_eq (pe_ix ix_tup (pe_ix ix_list (pv 0) (pv 2) (fun _ _ => rfl)) pe_int (fun _ _ => rfl)) pe_str (nomark _)))) (fun _ _ _ _ _ => by exact (pe_ix ix_tup (pe_ix ix_list (pv 0) (pv 2) (fun _ _ => rfl)) pe_int (fun _ _ => rfl)))) pa_nil)))), ?_⟩
  have sz : sizeLine = 16777216 := sizeLine_eq
  refine ⟨_, rfl, _, rfl, l, L, ps, S, rfl, hl, wf, h60, hL, hS, fun H1 ks t hr s1 ht ht1 => ?_⟩
  have kl := hr.len wf hS
  refine ⟨t, rfl, ⟨_, SqL.of ht1⟩, fun G hG => ?_⟩
  refine lc_list (K := K) (a := t) (xs := natL ks) (fun j H3 => Same H1 H3 ∧ H3 G = some (.lst ((getsOf ps (ks.take j)).map V.int)) ∧ (getsOf ps (ks.take j)).length ≤ j) ⟨same_new hG, upd_same, Nat.le_refl _⟩ (fun j H3 _ ⟨s3, _⟩ => SqL.of (s3 _ _ ht1)) ?_ ?_
  · rintro j x H3 hj ⟨s3, hns, hl3⟩
    obtain ⟨z, hz', rfl⟩ := natL_get hj
    have hjl := (List.getElem?_eq_some_iff.mp hz').1
    have hzn := ((hr.mem z).mp (List.mem_of_getElem? hz')).lt wf hS
    obtain ⟨p, hp'⟩ : ∃ p, ps[z]? = some p := ⟨_, List.getElem?_eq_getElem hzn⟩
    obtain ⟨u, hu, hU⟩ := hit z p hp'
    have hX3 := s3 _ _ (s1 _ _ hX)
    have hU3 := s3 _ _ (s1 _ _ hU)
    have et : getsOf ps (ks.take (j + 1)) = getsOf ps (ks.take j) ++ (getAt ps z).toList := by rw [List.take_add_one, hz']; exact getsOf_snoc _ _ _
    cases p with
    | num v =>
      rw [getAt_num hp', Option.toList_none, List.append_nil] at et
      exact ⟨rfl, _, rfl, _, rfl, l, xs, _, _, rfl, rfl, SqL.of hX3, at_of rfl hu, u, _, 0, _, rfl, rfl, SqT.of hU3, rfl, rfl, _, rfl, iteN (by decide) ⟨s3, by rw [et]; exact hns, by rw [et]; omega⟩⟩
    | op o x y =>
      rw [getAt_op hp', Option.toList_none, List.append_nil] at et
      exact ⟨rfl, _, rfl, _, rfl, l, xs, _, _, rfl, rfl, SqL.of hX3, at_of rfl hu, u, _, 0, _, rfl, rfl, SqT.of hU3, rfl, rfl, _, rfl, iteN (op_get_f o) ⟨s3, by rw [et]; exact hns, by rw [et]; omega⟩⟩
    | get v =>
      rw [getAt_get hp', Option.toList_some] at et
      refine ⟨rfl, _, rfl, _, rfl, l, xs, _, _, rfl, rfl, SqL.of hX3, at_of rfl hu, u, _, 0, _, rfl, rfl, SqT.of hU3, rfl, rfl, _, rfl, iteP (by decide) ?_⟩
      refine ⟨_, rfl, _, rfl, l, xs, _, _, rfl, rfl, SqL.of hX3, at_of rfl hu, u, _, 1, _, rfl, rfl, SqT.of hU3, rfl, ?_⟩
      refine ⟨_, hns, by rw [List.length_map]; omega, fun b o e => ?_, by rw [upd_same, et, List.map_append]; rfl, by rw [et]; simp; omega⟩
      rw [upd_ne (ne_of_none e hG)]; exact s3 _ _ e
  rintro H3 ⟨s3, hns, hl3⟩
  rw [natL_len, List.take_length] at hns
  refine ⟨G, _, rfl, SqL.of hns, fun ns' p hperm hsort hpn => ?_⟩
  exact k _ ks ns' p hr hperm hsort ((s1.trans s3).trans (same_new hpn)) ((s1.trans s3).free hpn) upd_same
end
end My

/-! LG -/
namespace My
open PySem L2
local macro_rules | `(tactic| walk_at "side") => `(tactic| first | with_reducible rfl | assumption | rfl | decide | omega | exact cpow1 (by omega) (by omega) | exact cdiv (by omega) (by omega) | exact two_pos _ | exact SqL.of (by assumption) | exact SqT.of (by assumption) | exact TyX.base (TyOf.int _) | exact TyX.base (TyOf.bl _) | exact TyX.base TyOf.non | exact scal_opt _ _ | exact k_ii | exact k_bi | exact k_ni | exact k_ib | exact k_bb | exact TyX.base (TyOf.lst (by assumption)) | exact k_ll | exact k_lt)
local macro_rules | `(tactic| walk_at "p") => `(tactic| repeat (first | refine And.intro (by walk_at "side") ?_ | apply Exists.intro | refine iteN (by assumption) ?_ | refine iteP (by assumption) ?_ | refine iteN (by decide) ?_ | refine iteP (by decide) ?_))

section
variable {P : Program} {w : World} {K : PySem.W.Frag} {mg : Str → Option Value} {base : Heap}
/-- the rows at the list l, that was not there in H0 -/
structure RowsAt (H0 H : Hp) (p : Addr) (l : Addr) (rs : List Part) : Prop where
  at_ : LAt H l rs
  keep : ∀ b o, H0 b = some o → b ≠ p → H b = some o
theorem RowsAt.push {H0 H : Hp} {p l t : Addr} {rs : List Part} {r : Part} {xs : List V} (h : RowsAt H0 H p l rs) (h0 : H0 l = none) (hx : H l = some (.lst xs)) (ht : H t = some (.tup r.vals)) : RowsAt H0 (upd H l (.lst (xs ++ [.ref t]))) p l (rs ++ [r]) := by
  have tl : t ≠ l := ne_of ht hx (by intro z; cases z)
  refine ⟨h.at_.push hx (fun b ys e => by rw [upd_ne (ne_of e hx (by intro z; cases z))]; exact e) upd_same (by rw [upd_ne tl]; exact ht), fun b o e hb => ?_⟩
  rw [upd_ne (ne_of_none e h0)]; exact h.keep b o e hb
theorem RowsAt.news {H0 H H' : Hp} {p l : Addr} {rs : List Part} (h : RowsAt H0 H p l rs) (s : Same H H') : RowsAt H0 H' p l rs := ⟨h.at_.news s, fun b o e hb => s _ _ (h.keep b o e hb)⟩
theorem RowsAt.but {H0 H H' : Hp} {p l : Addr} {rs : List Part} {ns : List V} (h : RowsAt H0 H p l rs) (hp : H p = some (.lst ns)) (hl : l ≠ p) (s : ∀ b o, H b = some o → b ≠ p → H' b = some o) : RowsAt H0 H' p l rs :=
  ⟨h.at_.keep (S := fun b => b = p) (fun b o e hb => s b o e hb) hl fun t xs e => ne_of e hp (by intro z; cases z), fun b o e hb => s _ _ (h.keep b o e hb) hb⟩
theorem RowsAt.take {H0 H H' : Hp} {p q l : Addr} {rs : List Part} (h : RowsAt H0 H p l rs) (d : Dr H p q) (hl : l ≠ p) (s : ∀ b o, H b = some o → b ≠ p → H' b = some o) : RowsAt H0 H' p l rs := by
  obtain ⟨_, _, h1, _⟩ := d
  exact h.but h1 hl s
theorem Dr.upd {H : Hp} {p q l : Addr} {o : HO} (h : Dr H p q) (lp : l ≠ p) (lq : l ≠ q) : Dr (upd H l o) p q :=
  h.keep (S := fun b => b = l) (fun b o e hb => by rw [upd_ne hb]; exact e) (fun e => lp e.symm) (fun e => lq e.symm)
def plainL : List V := [.str "add", .str "xor", .str "sub", .str "and", .str "or"]
theorem op_at {v : Int} (h0 : 0 ≤ v) (h1 : v < 7) : ∃ o : Op, atI opList v = some (.str o.s) := by
  have : v = 0 ∨ v = 1 ∨ v = 2 ∨ v = 3 ∨ v = 4 ∨ v = 5 ∨ v = 6 := by omega
  rcases this with rfl | rfl | rfl | rfl | rfl | rfl | rfl
  · exact ⟨.add, rfl⟩
  · exact ⟨.xor, rfl⟩
  · exact ⟨.sub, rfl⟩
  · exact ⟨.and, rfl⟩
  · exact ⟨.same, rfl⟩
  · exact ⟨.or, rfl⟩
  · exact ⟨.less, rfl⟩
theorem plain_at {v : Int} (h0 : 0 ≤ v) (h1 : v < 5) : ∃ o : Op, atI plainL v = some (.str o.s) ∧ o ≠ .less ∧ o ≠ .same := by
  have : v = 0 ∨ v = 1 ∨ v = 2 ∨ v = 3 ∨ v = 4 := by omega
  rcases this with rfl | rfl | rfl | rfl | rfl
  · exact ⟨.add, rfl, by decide, by decide⟩
  · exact ⟨.xor, rfl, by decide, by decide⟩
  · exact ⟨.sub, rfl, by decide, by decide⟩
  · exact ⟨.and, rfl, by decide, by decide⟩
  · exact ⟨.or, rfl, by decide, by decide⟩
def sp_law_term_rows (T : Txt K mg) : Sp := fun vs H Q _ => ∃ (p q : Addr) (u n m : Nat) (plain : Bool), vs = [.ref p, .int u, .int n, .int m, .bl plain] ∧ Dr H p q ∧ p ≠ q ∧ 1 ≤ n ∧ n ≤ 12 ∧ u ≤ 3 ∧ m ≤ 10 ∧
  ∀ (H' : Hp) (l : Addr) (rs : List Part), H l = none → Dr H' p q → RowsAt H H' p l rs → Rows n u plain rs → rs.length = u + 1 + m → Q (.ref l) H'
theorem sp_law_term_rows_len {T : Txt K mg} {vs H Q E} (h : sp_law_term_rows T vs H Q E) : vs.length = 5 := by obtain ⟨_, _, _, _, _, _, rfl, _⟩ := h; rfl
theorem ok_law_term_rows (T : Txt K mg) : FnOk P w K mg base CX0 3 T.f_law_term_rows T.fd_law_term_rows ["_law_draws_here", "_law_unknowns", "_law_width", "_law_many", "_law_plain"] (sp_law_term_rows T) := by
  have G_law_ops := ok_law_ops (P := P) (w := w) (base := base) T; have G_law_take := ok_law_take (P := P) (w := w) (base := base) T; have G_law_word := ok_law_word (P := P) (w := w) (base := base) T
  refine T.F_law_term_rows.ok sc_law_term_rows (fun vs H Q E h => sp_law_term_rows_len h) (fun cdv A outer s H vs Q E hr h => ?_)
  obtain ⟨p, q, u, n, m, plain, rfl, hd, hpq, n1, n12, u3, m9, k⟩ := h
  refine ⟨_, (pss_cons (ps_set (i := 5) sc_law_term_rows.nd rfl (Or.inl rfl) (pe_lst pa_nil))
       (pss_cons (ps_for PassesOwn.never rfl (pi_range1 (by rfl) T.n_range (pa_cons (pv 1) pa_nil)) (pg_name (i := 6) sc_law_term_rows.nd rfl (Or.inl rfl))
        (pss_one (ps_expr (pe_bm PySem.F.plainAttrs_list PySem.F.slot_list_append PySem.F.type_list_append mt_append (pv 5) (pa_cons (pe_tup (pa_cons pe_str (pa_cons (pv 6) pa_nil))) pa_nil)))))
       (pss_cons (ps_expr (pe_bm PySem.F.plainAttrs_list PySem.F.slot_list_append PySem.F.type_list_append mt_append (pv 5) (pa_cons (pe_tup (pa_cons pe_str (pa_cons (pe_call G_law_word hr rfl T.g_law_word T.F_law_word.kp T.b_law_word .nil pass0 (pa_cons (pv 0) (pa_cons (pv 2) pa_nil))) pa_nil))) pa_nil)))
       (pss_cons (ps_for PassesOwn.never rfl (pi_range1 (by rfl) T.n_range (pa_cons (pv 3) pa_nil)) (pg_name (i := 7) sc_law_term_rows.nd rfl (Or.inl rfl))
        (pss_cons (ps_set (i := 8) sc_law_term_rows.nd rfl (Or.inl rfl) (pe_call0 G_law_ops (hr.mono (by decide)) rfl T.g_law_ops T.F_law_ops.kp T.b_law_ops .nil pass0))
       (Evl.pss_cut (ps_if (pt_val (pv 4))
        (pss_one (ps_set (i := 8) sc_law_term_rows.nd rfl (Or.inl rfl) (pe_lst (pa_cons pe_str (pa_cons pe_str (pa_cons pe_str (pa_cons pe_str (pa_cons pe_str pa_nil))))))))
        pss_nil)
       (pss_cons (ps_set (i := 9) sc_law_term_rows.nd rfl (Or.inl rfl) (pe_ix ix_list (pv 8) (pe_call G_law_take (hr.mono (by decide)) rfl T.g_law_take T.F_law_take.kp T.b_law_take .nil pass0 (pa_cons (pv 0) (pa_cons (pe_callB call_lenL (by rfl) T.n_len (by decide +kernel) (pa_cons (pv 8) pa_nil)) pa_nil))) (fun _ _ => rfl)))
       (pss_cons (ps_set (i := 10) sc_law_term_rows.nd rfl (Or.inl rfl) (pe_op op_sub (pe_op op_sub (pe_callB call_lenL (by rfl) T.n_len (by decide +kernel) (pa_cons (pv 5) pa_nil)) pe_int) (pe_call G_law_take (hr.mono (by decide)) rfl T.g_law_take T.F_law_take.kp T.b_law_take .nil pass0 (pa_cons (pv 0) (pa_cons (pe_callB (call_min2 rfl) (by rfl) T.n_min (by decide +kernel) (pa_cons pe_int (pa_cons (pe_callB call_lenL (by rfl) T.n_len (by decide +kernel) (pa_cons (pv 5) pa_nil)) pa_nil))) pa_nil)))))
       (pss_cons (ps_set (i := 11) sc_law_term_rows.nd rfl (Or.inl rfl) (pe_call G_law_take (hr.mono (by decide)) rfl T.g_law_take T.F_law_take.kp T.b_law_take .nil pass0 (pa_cons (pv 0) (pa_cons (pe_callB call_lenL (by rfl) T.n_len (by decide +kernel) (pa_cons (pv 5) pa_nil)) pa_nil))))
       (pss_one (ps_if (pt_cmpR op_eq (pe_call G_law_take (hr.mono (by decide)) rfl T.g_law_take T.F_law_take.kp T.b_law_take .nil pass0 (pa_cons (pv 0) (pa_cons pe_int pa_nil))) pe_int (nomark _))
        (pss_one (ps_expr (pe_bm PySem.F.plainAttrs_list PySem.F.slot_list_append PySem.F.type_list_append mt_append (pv 5) (pa_cons (pe_tup (pa_cons pe_str (pa_cons (pe_call G_law_word hr rfl T.g_law_word T.F_law_word.kp T.b_law_word .nil pass0 (pa_cons (pv 0) (pa_cons (pv 2) pa_nil))) pa_nil))) pa_nil))))
        (pss_one (ps_expr (pe_bm PySem.F.plainAttrs_list PySem.F.slot_list_append PySem.F.type_list_append mt_append (pv 5) (pa_cons (pe_tup (pa_cons (pv 9) (pa_cons (pv 10) (pa_cons (pv 11) pa_nil)))) pa_nil))))))))))))
       (pss_one (ps_ret (pv 5))))))), ?_⟩
  have sz : sizeLine = 16777216 := sizeLine_eq
  refine ⟨Nat.zero_le _, fun l hl => ?_⟩
  have s1 := same_new (o := .lst []) hl
  have lp : l ≠ p := by obtain ⟨_, _, h1, _⟩ := hd; exact fun e => by rw [e, h1] at hl; cases hl
  have lq : l ≠ q := by obtain ⟨_, _, _, h1, _⟩ := hd; exact fun e => by rw [e, h1] at hl; cases hl
  -- one row put at the end
  have push : ∀ (H1 : Hp) (rs : List Part) (r : Part) (t : Addr) (xs : List V), Dr H1 p q → RowsAt H H1 p l rs → Rows n u plain rs → RowOk n u plain rs.length r → H1 l = some (.lst xs) → H1 t = none →
      Dr (upd (upd H1 t (.tup r.vals)) l (.lst (xs ++ [.ref t]))) p q ∧ RowsAt H (upd (upd H1 t (.tup r.vals)) l (.lst (xs ++ [.ref t]))) p l (rs ++ [r]) ∧ Rows n u plain (rs ++ [r]) := by
    intro H1 rs r t xs d ra ro rk hX ht
    have s := same_new (o := .tup r.vals) ht
    exact ⟨(d.news s).upd lp lq, (ra.news s).push hl (s _ _ hX) upd_same, ro.snoc rk⟩
  refine ⟨_, rfl, u, rfl, by omega, by omega, ?_⟩
  refine for_range (lo := 0) (n := ((u : Nat) : Int).toNat) (fun j σ' H1 => ∃ (v6 : Option V) (rs : List Part), σ' = [some (.ref p), some (.int (u : Nat)), some (.int (n : Nat)), some (.int (m : Nat)), some (.bl plain), some (.ref l), v6, none, none, none, none, none] ∧ Dr H1 p q ∧ RowsAt H H1 p l rs ∧ Rows n u plain rs ∧ rs.length = j)
    ⟨none, [], rfl, hd.news s1, ⟨⟨[], upd_same, rfl, fun i q e => by simp at e⟩, fun b o e _ => s1 b o e⟩, rows_nil _ _ _, rfl⟩ ?_ ?_
  · rintro j σ' H1 hj ⟨v6, rs, rfl, d1, ra, ro, hlen⟩
    rw [Int.toNat_natCast] at hj
    obtain ⟨xs, hX, ex, _⟩ := ra.at_.item
    refine ⟨_, rfl, .inl ⟨rfl, _, SqL.of hX⟩, _, rfl, by show 2 ≤ sizeLine; decide, fun t ht => ?_⟩
    obtain ⟨d2, ra2, ro2⟩ := push H1 rs (.get (0 + (j : Nat))) t xs d1 ra ro ⟨trivial, ⟨by omega, by omega⟩, fun g e => (by cases e; omega), fun _ o a b e => by cases e⟩ hX ht
    have hX2 : upd H1 t (.tup (Part.get (0 + (j : Nat))).vals) l = some (.lst xs) := by rw [upd_ne (ne_of_none hX ht)]; exact hX
    exact ⟨l, _, _, rfl, rfl, hX2, by omega, some (.int (0 + (j : Nat))), _, rfl, d2, ra2, ro2, by simp [hlen]⟩
  rintro σ' H1 ⟨v6, rs, rfl, d1, ra, ro, hlen⟩
  rw [Int.toNat_natCast] at hlen
  obtain ⟨xs, hX, ex, _⟩ := ra.at_.item
  refine ⟨_, rfl, .inl ⟨rfl, _, SqL.of hX⟩, _, rfl, _, rfl, p, q, n, rfl, d1, hpq, n12, fun H2 v v0 v1 d2 k2 => ?_⟩
  have ra2 := ra.take d1 lp k2
  have hX2 := k2 _ _ hX lp
  refine ⟨by show 2 ≤ sizeLine; decide, fun t ht => ?_⟩
  obtain ⟨d3, ra3, ro3⟩ := push H2 rs (.num v) t xs d2 ra2 ro ⟨trivial, ⟨v0, v1⟩, fun g e => (by cases e), fun _ o a b e => by cases e⟩ hX2 ht
  have hX3 : upd H2 t (.tup (Part.num v).vals) l = some (.lst xs) := by rw [upd_ne (ne_of_none hX2 ht)]; exact hX2
  refine ⟨l, _, _, rfl, rfl, hX3, by omega, ?_⟩
  -- the operations
  refine ⟨_, rfl, m, rfl, by omega, by omega, ?_⟩
  refine for_range (lo := 0) (n := ((m : Nat) : Int).toNat) (fun j σ' H1 => ∃ (v7 v8 v9 v10 v11 : Option V) (rs : List Part), σ' = [some (.ref p), some (.int (u : Nat)), some (.int (n : Nat)), some (.int (m : Nat)), some (.bl plain), some (.ref l), v6, v7, v8, v9, v10, v11] ∧ Dr H1 p q ∧ RowsAt H H1 p l rs ∧ Rows n u plain rs ∧ rs.length = u + 1 + j)
    ⟨none, none, none, none, none, _, rfl, d3, ra3, ro3, by simp [hlen]⟩ ?_ ?_
  · rintro j σ' H1 hj ⟨v7, v8, v9, v10, v11, rs, rfl, d1, ra, ro, hlen⟩
    rw [Int.toNat_natCast] at hj
    obtain ⟨xs, hX, ex, _⟩ := ra.at_.item
    refine ⟨rfl, fun N hN => ?_⟩
    have sN := same_new (o := .lst opList) hN
    have pN : p ≠ N := by obtain ⟨_, _, h1, _⟩ := d1; exact ne_of_none h1 hN
    refine ⟨fun σ' H2 => ∃ (N : Addr) (L : List V), σ' = [some (.ref p), some (.int (u : Nat)), some (.int (n : Nat)), some (.int (m : Nat)), some (.bl plain), some (.ref l), v6, some (.int (0 + (j : Nat))), some (.ref N), v9, v10, v11] ∧ Same H1 H2 ∧ N ≠ p ∧ H2 N = some (.lst L) ∧ (L = opList ∧ plain = false ∨ L = plainL), ?_, ?_⟩
    · refine ⟨_, rfl, plain, rfl, ?_⟩
      cases plain with
      | true =>
        refine iteP rfl ⟨by show 5 ≤ sizeLine; decide, fun M hM => ?_⟩
        refine ⟨M, plainL, rfl, sN.trans (same_new hM), fun e => ?_, upd_same, .inr rfl⟩
        obtain ⟨_, _, h1, _⟩ := d1.news sN
        rw [e, h1] at hM; cases hM
      | false => exact iteN (by decide) ⟨N, opList, rfl, sN, pN.symm, upd_same, .inl ⟨rfl, rfl⟩⟩
    rintro σ' H2 ⟨N, L, rfl, s2, Np, hNL, hL⟩
    have d2 := d1.news s2
    have ra2 := ra.news s2
    have L5 : 0 < L.length := by rcases hL with ⟨e, _⟩ | e <;> rw [e] <;> decide
    refine ⟨_, rfl, _, rfl, _, rfl, N, L, rfl, SqL.of hNL, p, q, _, rfl, d2, hpq, by omega, fun H3 x x0 x1 d3 k3 => ?_⟩
    have ra3 := ra2.take d2 lp k3
    have hX3 := k3 _ _ (s2 _ _ hX) lp
    obtain ⟨o, ho, hpl⟩ : ∃ o : Op, atI L x = some (.str o.s) ∧ (plain = true → o ≠ .less ∧ o ≠ .same) := by
      rcases hL with ⟨e, e2⟩ | e
      · subst e
        obtain ⟨o, ho⟩ := op_at x0 x1
        exact ⟨o, ho, fun z => by rw [e2] at z; cases z⟩
      · subst e
        obtain ⟨o, ho, h1, h2⟩ := plain_at x0 x1
        exact ⟨o, ho, fun _ => ⟨h1, h2⟩⟩
    refine ⟨N, L, _, _, rfl, rfl, SqL.of (k3 _ _ hNL Np), ho, ?_⟩
    have hpos : (0 : Int) < if ((xs.length : Nat) : Int) < 3 then ((xs.length : Nat) : Int) else 3 := by split <;> omega
    refine ⟨_, rfl, l, xs, rfl, SqL.of hX3, _, _, rfl, rfl, _, rfl, _, rfl, l, xs, rfl, SqL.of hX3, _, _, rfl, p, q, _, rfl, d3, hpq, hpos, fun H4 y y0 y1 d4 k4 => ?_⟩
    have ra4 := ra3.take d3 lp k4
    have hX4 := k4 _ _ hX3 lp
    have y2 : y < (xs.length : Nat) := by split at y1 <;> omega
    obtain ⟨a, ea⟩ : ∃ a : Nat, ((xs.length : Nat) : Int) - 1 - y = (a : Nat) := ⟨xs.length - 1 - y.toNat, by omega⟩
    refine ⟨_, _, rfl, rfl, ?_⟩
    refine ⟨_, rfl, _, rfl, l, xs, rfl, SqL.of hX4, p, q, _, rfl, d4, hpq, by omega, fun H5 z z0 z1 d5 k5 => ?_⟩
    have ra5 := ra4.take d4 lp k5
    have hX5 := k5 _ _ hX4 lp
    obtain ⟨b, rfl⟩ := Int.eq_ofNat_of_zero_le z0
    -- a number, or an operation
    refine ⟨_, rfl, p, q, _, rfl, d5, hpq, by decide, fun H6 c c0 c1 d6 k6 => ⟨rfl, _, rfl, ?_⟩⟩
    have ra6 := ra5.take d5 lp k6
    have hX6 := k6 _ _ hX5 lp
    by_cases hc : c = 5
    · refine iteP (dT (by rw [hc])) ?_
      refine ⟨_, rfl, .inl ⟨rfl, _, SqL.of hX6⟩, _, rfl, _, rfl, p, q, n, rfl, d6, hpq, n12, fun H7 v v0 v1 d7 k7 => ?_⟩
      have ra7 := ra6.take d6 lp k7
      have hX7 := k7 _ _ hX6 lp
      refine ⟨by show 2 ≤ sizeLine; decide, fun t ht => ?_⟩
      obtain ⟨d8, ra8, ro8⟩ := push H7 rs (.num v) t xs d7 ra7 ro ⟨trivial, ⟨v0, v1⟩, fun g e => (by cases e), fun _ o a b e => by cases e⟩ hX7 ht
      have hX8 : upd H7 t (.tup (Part.num v).vals) l = some (.lst xs) := by rw [upd_ne (ne_of_none hX7 ht)]; exact hX7
      exact ⟨l, _, _, rfl, rfl, hX8, by omega, _, _, _, _, _, _, rfl, d8, ra8, ro8, by rw [List.length_append, List.length_singleton]; omega⟩
    · refine iteN (dF (by intro e; injection e with e; exact hc e)) ?_
      refine ⟨_, rfl, .inl ⟨rfl, _, SqL.of hX6⟩, _, rfl, _, rfl, _, rfl, by show 3 ≤ sizeLine; decide, fun t ht => ?_⟩
      have et : (HO.tup [V.str o.s, V.int (((xs.length : Nat) : Int) - 1 - y), V.int (b : Nat)]) = HO.tup (Part.op o a b).vals := by rw [ea]; rfl
      obtain ⟨d8, ra8, ro8⟩ := push H6 rs (.op o a b) t xs d6 ra6 ro ⟨⟨by omega, by omega⟩, trivial, fun g e => (by cases e), fun hp o' a' b' e => (by cases e; exact hpl hp)⟩ hX6 ht
      have hX8 : upd H6 t (.tup (Part.op o a b).vals) l = some (.lst xs) := by rw [upd_ne (ne_of_none hX6 ht)]; exact hX6
      rw [← et] at d8 ra8 hX8
      exact ⟨l, _, _, rfl, rfl, hX8, by omega, _, _, _, _, _, _, rfl, d8, ra8, ro8, by rw [List.length_append, List.length_singleton]; omega⟩
  rintro σ' H4 ⟨v7, v8, v9, v10, v11, rs, rfl, d4, ra4, ro4, hlen4⟩
  rw [Int.toNat_natCast] at hlen4
  exact ⟨_, rfl, k H4 l rs hl d4 ra4 ro4 hlen4⟩
end
end My

/-! LH -/
namespace My
open PySem L2
local macro_rules | `(tactic| walk_at "side") => `(tactic| first | with_reducible rfl | assumption | rfl | decide | omega | exact cpow1 (by omega) (by omega) | exact cdiv (by omega) (by omega) | exact two_pos _ | exact SqL.of (by assumption) | exact SqT.of (by assumption) | exact TyX.base (TyOf.int _) | exact TyX.base (TyOf.bl _) | exact TyX.base TyOf.non | exact scal_opt _ _ | exact k_ii | exact k_bi | exact k_ni | exact k_ib | exact k_bb | exact TyX.base (TyOf.lst (by assumption)) | exact k_ll | exact k_lt)
local macro_rules | `(tactic| walk_at "p") => `(tactic| repeat (first | refine And.intro (by walk_at "side") ?_ | apply Exists.intro | refine iteN (by assumption) ?_ | refine iteP (by assumption) ?_ | refine iteN (by decide) ?_ | refine iteP (by decide) ?_))

section
variable {P : Program} {w : World} {K : PySem.W.Frag} {mg : Str → Option Value} {base : Heap}
/-- rows that grow at l -/
structure EdS (H0 H : Hp) (p q l : Addr) (n u : Nat) (rs : List Part) (xs : List V) : Prop where
  dr : Dr H p q
  at_ : LAt H l rs
  li : H l = some (.lst xs)
  len : xs.length = rs.length
  rows : Rows n u false rs
  keep : ∀ b o, H0 b = some o → b ≠ p → b ≠ l → H b = some o
theorem EdS.push {H0 H : Hp} {p q l t : Addr} {n u : Nat} {rs : List Part} {xs vs : List V} (s : EdS H0 H p q l n u rs xs) (lp : l ≠ p) (lq : l ≠ q) (r : Part) (ev : vs = r.vals) (rk : RowOk n u false rs.length r) (ht : H t = none) :
    upd H t (.tup vs) l = some (.lst xs) ∧ EdS H0 (upd (upd H t (.tup vs)) l (.lst (xs ++ [.ref t]))) p q l n u (rs ++ [r]) (xs ++ [.ref t]) := by
  subst ev
  have s1 := same_new (o := .tup r.vals) ht
  have tl : t ≠ l := (ne_of_none s.li ht).symm
  refine ⟨s1 _ _ s.li, (s.dr.news s1).upd lp lq, (s.at_.news s1).push (s1 _ _ s.li) (fun b ys e => by rw [upd_ne (ne_of e (s1 _ _ s.li) (by intro z; cases z))]; exact e) upd_same (by rw [upd_ne tl]; exact upd_same), upd_same, by simp [s.len], s.rows.snoc rk, fun b o e h1 h2 => ?_⟩
  rw [upd_ne h2]; exact s1 _ _ (s.keep b o e h1 h2)
def opsL : List Op := [.add, .xor, .sub, .and, .same, .or, .less]
theorem opsL_v : opsL.map (fun o => V.str o.s) = opList := rfl
def sp_law_edge_rows (T : Txt K mg) : Sp := fun vs H Q _ => ∃ (p q l : Addr) (n u : Nat) (rs : List Part), vs = [.ref p, .ref l, .int n] ∧ Dr H p q ∧ p ≠ q ∧ l ≠ p ∧ l ≠ q ∧ 1 ≤ n ∧ n ≤ 12 ∧ LAt H l rs ∧ Rows n u false rs ∧ 1 ≤ rs.length ∧ rs.length ≤ 20 ∧
  ∀ (H' : Hp) (rs' : List Part), Dr H' p q → LAt H' l rs' → Rows n u false rs' → rs'.length = rs.length + 37 → rs <+: rs' → (∀ b o, H b = some o → b ≠ p → b ≠ l → H' b = some o) → Q (.ref l) H'
theorem sp_law_edge_rows_len {T : Txt K mg} {vs H Q E} (h : sp_law_edge_rows T vs H Q E) : vs.length = 3 := by obtain ⟨_, _, _, _, _, _, rfl, _⟩ := h; rfl
theorem ok_law_edge_rows (T : Txt K mg) : FnOk P w K mg base CX0 2 T.f_law_edge_rows T.fd_law_edge_rows ["_law_draws_here", "_law_rows", "_law_width"] (sp_law_edge_rows T) := by
  have G_law_ops := ok_law_ops (P := P) (w := w) (base := base) T; have G_law_take := ok_law_take (P := P) (w := w) (base := base) T
  refine T.F_law_edge_rows.ok sc_law_edge_rows (fun vs H Q E h => sp_law_edge_rows_len h) (fun cdv A outer s H vs Q E hr h => ?_)
  obtain ⟨p, q, l, n, u, rs, rfl, hd, hpq, lp, lq, n1, n12, hl, ro, r1, r20, k⟩ := h
  obtain ⟨xs, hX, ex, _⟩ := hl.item
  refine ⟨_, (pss_cons (ps_set (i := 3) sc_law_edge_rows.nd rfl (Or.inl rfl) (pe_call G_law_take hr rfl T.g_law_take T.F_law_take.kp T.b_law_take .nil pass0 (pa_cons (pv 0) (pa_cons (pe_callB call_lenL (by rfl) T.n_len (by decide +kernel) (pa_cons (pv 1) pa_nil)) pa_nil))))
       (pss_cons (ps_set (i := 4) sc_law_edge_rows.nd rfl (Or.inl rfl) (pe_callB call_lenL (by rfl) T.n_len (by decide +kernel) (pa_cons (pv 1) pa_nil)))
       (pss_cons (ps_expr (pe_bm PySem.F.plainAttrs_list PySem.F.slot_list_append PySem.F.type_list_append mt_append (pv 1) (pa_cons (pe_tup (pa_cons pe_str (pa_cons pe_int pa_nil))) pa_nil)))
       (pss_cons (ps_expr (pe_bm PySem.F.plainAttrs_list PySem.F.slot_list_append PySem.F.type_list_append mt_append (pv 1) (pa_cons (pe_tup (pa_cons pe_str (pa_cons (pe_op op_sub (pe_op op_shl pe_int (pv 2)) pe_int) pa_nil))) pa_nil)))
       (pss_cons (ps_for PassesOwn.never rfl (pi_list (pe_call0 G_law_ops hr rfl T.g_law_ops T.F_law_ops.kp T.b_law_ops .nil pass0)) (pg_name (i := 5) sc_law_edge_rows.nd rfl (Or.inl rfl))
        (pss_cons (ps_expr (pe_bm PySem.F.plainAttrs_list PySem.F.slot_list_append PySem.F.type_list_append mt_append (pv 1) (pa_cons (pe_tup (pa_cons (pv 5) (pa_cons (pv 3) (pa_cons (pv 4) pa_nil)))) pa_nil)))
       (pss_cons (ps_expr (pe_bm PySem.F.plainAttrs_list PySem.F.slot_list_append PySem.F.type_list_append mt_append (pv 1) (pa_cons (pe_tup (pa_cons (pv 5) (pa_cons (pv 4) (pa_cons (pv 3) pa_nil)))) pa_nil)))
       (pss_cons (ps_expr (pe_bm PySem.F.plainAttrs_list PySem.F.slot_list_append PySem.F.type_list_append mt_append (pv 1) (pa_cons (pe_tup (pa_cons (pv 5) (pa_cons (pv 3) (pa_cons (pe_op op_add (pv 4) pe_int) pa_nil)))) pa_nil)))
       (pss_cons (ps_expr (pe_bm PySem.F.plainAttrs_list PySem.F.slot_list_append PySem.F.type_list_append mt_append (pv 1) (pa_cons (pe_tup (pa_cons (pv 5) (pa_cons (pe_op op_add (pv 4) pe_int) (pa_cons (pv 3) pa_nil)))) pa_nil)))
       (pss_one (ps_expr (pe_bm PySem.F.plainAttrs_list PySem.F.slot_list_append PySem.F.type_list_append mt_append (pv 1) (pa_cons (pe_tup (pa_cons (pv 5) (pa_cons (pv 3) (pa_cons (pv 3) pa_nil)))) pa_nil)))))))))
       (pss_one (ps_ret (pv 1)))))))), ?_⟩
  have sz : sizeLine = 16777216 := sizeLine_eq
  have two : (2 : Nat) ≤ sizeLine := by show 2 ≤ sizeLine; decide
  have three : (3 : Nat) ≤ sizeLine := by show 3 ≤ sizeLine; decide
  -- at = take(len(rows)); zero = len(rows)
  refine ⟨_, rfl, _, rfl, l, xs, rfl, SqL.of hX, p, q, _, rfl, hd, hpq, by omega, fun H1 v v0 v1 d1 k1 => ?_⟩
  obtain ⟨at_, rfl⟩ := Int.eq_ofNat_of_zero_le v0
  have hat : at_ < rs.length := by omega
  have hX1 := k1 _ _ hX lp
  obtain ⟨_, _, hp1, _⟩ := id hd
  have st1 : EdS H H1 p q l n u rs xs := ⟨d1, hl.keep (S := fun b => b = p) (fun b o e hb => k1 b o e hb) lp fun t xs e => ne_of e hp1 (by intro z; cases z), hX1, ex, ro, fun b o e h1 _ => k1 b o e h1⟩
  refine ⟨_, rfl, l, xs, rfl, SqL.of hX1, ?_⟩
  -- ("num", 0)
  refine ⟨_, rfl, .inl ⟨rfl, _, SqL.of hX1⟩, two, fun t1 ht1 => ?_⟩
  obtain ⟨hX2, st2⟩ := st1.push lp lq (.num 0) rfl ⟨trivial, ⟨by decide, pow_pos' n⟩, fun g e => (by cases e), fun _ o a b e => by cases e⟩ ht1
  refine ⟨l, _, _, rfl, rfl, hX2, by omega, ?_⟩
  -- ("num", (1 << width) - 1)
  have em : (1 : Int) * 2 ^ (n : Int).toNat - 1 = 2 ^ n - 1 := by rw [Int.one_mul, Int.toNat_natCast]
  refine ⟨_, rfl, .inl ⟨rfl, _, SqL.of st2.li⟩, _, rfl, _, _, rfl, rfl, cpow1 (by omega) (by omega), _, _, rfl, rfl, two, fun t2 ht2 => ?_⟩
  obtain ⟨hX3, st3⟩ := st2.push lp lq (.num (2 ^ n - 1)) (congrArg (fun z => [V.str "num", V.int z]) em) ⟨trivial, ⟨by have := one_lt n1; omega, by omega⟩, fun g e => (by cases e), fun _ o a b e => by cases e⟩ ht2
  refine ⟨l, _, _, rfl, rfl, hX3, by rw [List.length_append]; simp; omega, ?_⟩
  -- the operations
  refine ⟨rfl, fun N hN => ?_⟩
  have sN := same_new (o := .lst opList) hN
  have hNL : upd (upd (upd (upd (upd H1 t1 (.tup [.str "num", .int 0])) l (.lst (xs ++ [.ref t1]))) t2 (.tup [.str "num", .int (1 * 2 ^ (n : Int).toNat - 1)])) l (.lst (xs ++ [.ref t1] ++ [.ref t2]))) N (.lst opList) N = some (.lst opList) := upd_same
  have Np : N ≠ p := by obtain ⟨_, _, h1, _⟩ := st3.dr; exact (ne_of_none h1 hN).symm
  have Nl : N ≠ l := (ne_of_none st3.li hN).symm
  have st4 : EdS H (upd (upd (upd (upd (upd H1 t1 (.tup [.str "num", .int 0])) l (.lst (xs ++ [.ref t1]))) t2 (.tup [.str "num", .int (1 * 2 ^ (n : Int).toNat - 1)])) l (.lst (xs ++ [.ref t1] ++ [.ref t2]))) N (.lst opList)) p q l n u (rs ++ [.num 0] ++ [.num (2 ^ n - 1)]) (xs ++ [.ref t1] ++ [.ref t2]) :=
    ⟨st3.dr.news sN, st3.at_.news sN, sN _ _ st3.li, st3.len, st3.rows, fun b o e h1 h2 => sN _ _ (st3.keep b o e h1 h2)⟩
  generalize upd (upd (upd (upd (upd H1 t1 (.tup [.str "num", .int 0])) l (.lst (xs ++ [.ref t1]))) t2 (.tup [.str "num", .int (1 * 2 ^ (n : Int).toNat - 1)])) l (.lst (xs ++ [.ref t1] ++ [.ref t2]))) N (.lst opList) = H4 at *
  refine ⟨N, rfl, ⟨_, SqL.of hNL⟩, ?_⟩
  have ez : ((xs.length : Nat) : Int) = (rs.length : Nat) := by rw [ex]
  refine for_list (K := K) (a := N) (xs := opList) (fun j σ' H5 => ∃ (v5 : Option V) (rs5 : List Part) (xs5 : List V), σ' = [some (.ref p), some (.ref l), some (.int (n : Nat)), some (.int (at_ : Nat)), some (.int ((xs.length : Nat) : Int)), v5] ∧
    EdS H H5 p q l n u rs5 xs5 ∧ H5 N = some (.lst opList) ∧ rs5.length = rs.length + 2 + 5 * j ∧ rs <+: rs5) ⟨none, _, _, rfl, st4, hNL, by simp, by rw [List.append_assoc]; exact List.prefix_append _ _⟩ ?_ ?_ ?_
  · rintro j σ' H5 _ ⟨_, _, _, _, _, h, _⟩
    exact SqL.of h
  · rintro j x σ' H5 hj ⟨v5, rs5, xs5, rfl, s5, hN5, hl5, pre5⟩
    rw [← opsL_v, List.getElem?_map] at hj
    obtain ⟨o, ho, rfl⟩ := Option.map_eq_some_iff.mp hj
    have hj7 : j < 7 := (List.getElem?_eq_some_iff.mp ho).1
    have N_of : ∀ (H6 : Hp) (t : Addr) (vs ys : List V), H6 N = some (.lst opList) → H6 t = none → upd (upd H6 t (.tup vs)) l (.lst ys) N = some (.lst opList) := fun H6 t vs ys e ht => by
      rw [upd_ne Nl, upd_ne (ne_of_none e ht)]; exact e
    have rk : ∀ (m : Nat) (a b : Nat), rs.length + 2 ≤ m → a ≤ rs.length + 1 → b ≤ rs.length + 1 → RowOk n u false m (.op o a b) := fun m a b hm ha hb => ⟨⟨by omega, by omega⟩, trivial, fun g e => (by cases e), fun q => by cases q⟩
    have lx : ∀ {Hx : Hp} {rx : List Part} {yx : List V}, EdS H Hx p q l n u rx yx → rx.length < 100 → yx.length < sizeLine := fun s h => by rw [s.len]; omega
    -- five rows
    refine ⟨_, rfl, .inl ⟨rfl, _, SqL.of s5.li⟩, _, rfl, _, rfl, _, rfl, three, fun t1 ht1 => ?_⟩
    obtain ⟨hX6, s6⟩ := s5.push lp lq (vs := [.str o.s, .int (at_ : Nat), .int ((xs.length : Nat) : Int)]) (.op o at_ rs.length) (by rw [ez]; rfl) (rk _ _ _ (by omega) (by omega) (by omega)) ht1
    have hN6 := N_of H5 t1 [.str o.s, .int (at_ : Nat), .int ((xs.length : Nat) : Int)] (xs5 ++ [.ref t1]) hN5 ht1
    refine ⟨l, _, _, rfl, rfl, hX6, lx s5 (by omega), ?_⟩
    refine ⟨_, rfl, .inl ⟨rfl, _, SqL.of s6.li⟩, _, rfl, _, rfl, _, rfl, three, fun t2 ht2 => ?_⟩
    obtain ⟨hX7, s7⟩ := s6.push lp lq (vs := [.str o.s, .int ((xs.length : Nat) : Int), .int (at_ : Nat)]) (.op o rs.length at_) (by rw [ez]; rfl) (rk _ _ _ (by simp; omega) (by omega) (by omega)) ht2
    have hN7 := N_of _ t2 [.str o.s, .int ((xs.length : Nat) : Int), .int (at_ : Nat)] (xs5 ++ [.ref t1] ++ [.ref t2]) hN6 ht2
    refine ⟨l, _, _, rfl, rfl, hX7, lx s6 (by simp; omega), ?_⟩
    refine ⟨_, rfl, .inl ⟨rfl, _, SqL.of s7.li⟩, _, rfl, _, rfl, _, rfl, _, _, rfl, rfl, three, fun t3 ht3 => ?_⟩
    obtain ⟨hX8, s8⟩ := s7.push lp lq (vs := [.str o.s, .int (at_ : Nat), .int (((xs.length : Nat) : Int) + 1)]) (.op o at_ (rs.length + 1)) (by rw [ez]; rfl) (rk _ _ _ (by simp; omega) (by omega) (by omega)) ht3
    have hN8 := N_of _ t3 [.str o.s, .int (at_ : Nat), .int (((xs.length : Nat) : Int) + 1)] (xs5 ++ [.ref t1] ++ [.ref t2] ++ [.ref t3]) hN7 ht3
    refine ⟨l, _, _, rfl, rfl, hX8, lx s7 (by simp; omega), ?_⟩
    refine ⟨_, rfl, .inl ⟨rfl, _, SqL.of s8.li⟩, _, rfl, _, rfl, _, _, rfl, rfl, _, rfl, three, fun t4 ht4 => ?_⟩
    obtain ⟨hX9, s9⟩ := s8.push lp lq (vs := [.str o.s, .int (((xs.length : Nat) : Int) + 1), .int (at_ : Nat)]) (.op o (rs.length + 1) at_) (by rw [ez]; rfl) (rk _ _ _ (by simp; omega) (by omega) (by omega)) ht4
    have hN9 := N_of _ t4 [.str o.s, .int (((xs.length : Nat) : Int) + 1), .int (at_ : Nat)] (xs5 ++ [.ref t1] ++ [.ref t2] ++ [.ref t3] ++ [.ref t4]) hN8 ht4
    refine ⟨l, _, _, rfl, rfl, hX9, lx s8 (by simp; omega), ?_⟩
    refine ⟨_, rfl, .inl ⟨rfl, _, SqL.of s9.li⟩, _, rfl, _, rfl, _, rfl, three, fun t5 ht5 => ?_⟩
    obtain ⟨hX10, s10⟩ := s9.push lp lq (vs := [.str o.s, .int (at_ : Nat), .int (at_ : Nat)]) (.op o at_ at_) rfl (rk _ _ _ (by simp; omega) (by omega) (by omega)) ht5
    have hN10 := N_of _ t5 [.str o.s, .int (at_ : Nat), .int (at_ : Nat)] (xs5 ++ [.ref t1] ++ [.ref t2] ++ [.ref t3] ++ [.ref t4] ++ [.ref t5]) hN9 ht5
    exact ⟨l, _, _, rfl, rfl, hX10, lx s9 (by simp; omega), _, _, _, rfl, s10, hN10, by simp; omega, pre5.trans (by simp only [List.append_assoc]; exact List.prefix_append _ _)⟩
  rintro σ' H5 ⟨v5, rs5, xs5, rfl, s5, _, hl5, pre5⟩
  exact ⟨_, rfl, k H5 rs5 s5.dr s5.at_ s5.rows (by rw [hl5]; show _ + 2 + 5 * 7 = _; omega) pre5 s5.keep⟩
end
end My

/-! LI -/
namespace My
open PySem L2
local macro_rules | `(tactic| walk_at "side") => `(tactic| first | with_reducible rfl | assumption | rfl | decide | omega | exact cpow1 (by omega) (by omega) | exact cdiv (by omega) (by omega) | exact two_pos _ | exact SqL.of (by assumption) | exact SqT.of (by assumption) | exact TyX.base (TyOf.int _) | exact TyX.base (TyOf.bl _) | exact TyX.base TyOf.non | exact scal_opt _ _ | exact k_ii | exact k_bi | exact k_ni | exact k_ib | exact k_bb | exact TyX.base (TyOf.lst (by assumption)) | exact k_ll | exact k_lt)
local macro_rules | `(tactic| walk_at "p") => `(tactic| repeat (first | refine And.intro (by walk_at "side") ?_ | apply Exists.intro | refine iteN (by assumption) ?_ | refine iteP (by assumption) ?_ | refine iteN (by decide) ?_ | refine iteP (by decide) ?_))

section
variable {P : Program} {w : World} {K : PySem.W.Frag} {mg : Str → Option Value} {base : Heap}
def intL (ws : List Int) : List V := ws.map V.int
theorem intL_len (ws : List Int) : (intL ws).length = ws.length := by unfold intL; simp
theorem intL_at {ws : List Int} {i : Nat} (h : i < ws.length) : atI (intL ws) (i : Nat) = some (.int (ws.getD i 0)) := by
  refine at_of (j := i) rfl ?_
  unfold intL
  rw [List.getElem?_map, List.getD_eq_getElem?_getD, List.getElem?_eq_getElem h]; rfl
def sp_law_row_words (T : Txt K mg) : Sp := fun vs H Q _ => ∃ (l q : Addr) (n u : Nat) (rs : List Part) (ws : List Int), vs = [.ref l, .ref q, .int n] ∧ LAt H l rs ∧ H q = some (.lst (intL ws)) ∧ Ok n rs ∧ (∀ (k : Nat) (g : Int), rs[k]? = some (Part.get g) → g < ws.length) ∧ n ≤ 12 ∧ rs.length < 100 ∧
  ∀ (H' : Hp) (t : Addr), Same H H' → H t = none → H' t = some (.lst (intL (evs n (envOf ws) rs))) → Q (.ref t) H'
theorem sp_law_row_words_len {T : Txt K mg} {vs H Q E} (h : sp_law_row_words T vs H Q E) : vs.length = 3 := by obtain ⟨_, _, _, _, _, _, rfl, _⟩ := h; rfl
theorem ok_law_row_words (T : Txt K mg) : FnOk P w K mg base CX0 2 T.f_law_row_words T.fd_law_row_words ["_law_rows", "_law_words", "_law_width"] (sp_law_row_words T) := by
  have G_law_op := ok_law_op (P := P) (w := w) (base := base) T
  refine T.F_law_row_words.ok sc_law_row_words (fun vs H Q E h => sp_law_row_words_len h) (fun cdv A outer s H vs Q E hr h => ?_)
  obtain ⟨l, q, n, u, rs, ws, rfl, hl, hq, ok, hg, hn, h100, k⟩ := h
  refine ⟨_, (pss_cons (ps_set (i := 3) sc_law_row_words.nd rfl (Or.inl rfl) (pe_lst pa_nil))
       (pss_cons (ps_for PassesOwn.never rfl (pi_list (pv 0)) (pg_name (i := 4) sc_law_row_words.nd rfl (Or.inl rfl))
        (pss_one (ps_if (pt_cmpR op_eq (pe_ix ix_tup (pv 4) pe_int (fun _ _ => rfl)) pe_str (nomark _))
        (pss_one (ps_expr (pe_bm PySem.F.plainAttrs_list PySem.F.slot_list_append PySem.F.type_list_append mt_append (pv 3) (pa_cons (pe_ix ix_list (pv 1) (pe_ix ix_tup (pv 4) pe_int (fun _ _ => rfl)) (fun _ _ => rfl)) pa_nil))))
        (pss_one (ps_if (pt_cmpR op_eq (pe_ix ix_tup (pv 4) pe_int (fun _ _ => rfl)) pe_str (nomark _))
        (pss_one (ps_expr (pe_bm PySem.F.plainAttrs_list PySem.F.slot_list_append PySem.F.type_list_append mt_append (pv 3) (pa_cons (pe_op op_mod (pe_callTy call_intI (by rfl) T.n_int (by decide +kernel) (pa_cons (pe_ix ix_tup (pv 4) pe_int (fun _ _ => rfl)) pa_nil)) (pe_op op_shl pe_int (pv 2))) pa_nil))))
        (pss_one (ps_expr (pe_bm PySem.F.plainAttrs_list PySem.F.slot_list_append PySem.F.type_list_append mt_append (pv 3) (pa_cons (pe_call G_law_op hr rfl T.g_law_op T.F_law_op.kp T.b_law_op .nil pass0 (pa_cons (pe_ix ix_tup (pv 4) pe_int (fun _ _ => rfl)) (pa_cons (pe_ix ix_list (pv 3) (pe_ix ix_tup (pv 4) pe_int (fun _ _ => rfl)) (fun _ _ => rfl)) (pa_cons (pe_ix ix_list (pv 3) (pe_ix ix_tup (pv 4) pe_int (fun _ _ => rfl)) (fun _ _ => rfl)) (pa_cons (pv 2) pa_nil))))) pa_nil)))))))))
       (pss_one (ps_ret (pv 3))))), ?_⟩
  have sz : sizeLine = 16777216 := sizeLine_eq
  obtain ⟨xs, hX, ex, hit⟩ := hl.item
  refine ⟨Nat.zero_le _, fun D hD => ?_⟩
  have s1 := same_new (o := .lst []) hD
  refine ⟨_, rfl, l, rfl, ⟨_, SqL.of (s1 _ _ hX)⟩, ?_⟩
  refine for_list (K := K) (a := l) (xs := xs) (fun j σ' H2 => ∃ v4 : Option V, σ' = [some (.ref l), some (.ref q), some (.int (n : Nat)), some (.ref D), v4] ∧ Same H H2 ∧ H2 D = some (.lst (intL (evs n (envOf ws) (rs.take j))))) ⟨none, rfl, s1, upd_same⟩ ?_ ?_ ?_
  · rintro j σ' H2 _ ⟨_, _, s2, _⟩
    exact SqL.of (s2 _ _ hX)
  · rintro j x σ' H2 hj ⟨v4, rfl, s2, h2⟩
    have hjl := (List.getElem?_eq_some_iff.mp hj).1
    obtain ⟨p, hp⟩ : ∃ p, rs[j]? = some p := ⟨_, List.getElem?_eq_getElem (by omega)⟩
    obtain ⟨t, ht, hT⟩ := hit j p hp
    rw [hj] at ht
    cases ht
    have hT2 := s2 _ _ hT
    have el : (evs n (envOf ws) (rs.take j)).length = j := by rw [evs_len, List.length_take]; omega
    have es : evs n (envOf ws) (rs.take (j + 1)) = evs n (envOf ws) (rs.take j) ++ [evV n (envOf ws) (evs n (envOf ws) (rs.take j)) p] := by rw [take_snoc hp, evs_snoc]
    have fin : ∀ v : Int, v = evV n (envOf ws) (evs n (envOf ws) (rs.take j)) p → Same H (upd H2 D (.lst (intL (evs n (envOf ws) (rs.take j)) ++ [.int v]))) ∧ upd H2 D (.lst (intL (evs n (envOf ws) (rs.take j)) ++ [.int v])) D = some (.lst (intL (evs n (envOf ws) (rs.take (j + 1))))) := fun v e => by
      subst e
      refine ⟨fun b o e => ?_, ?_⟩
      · rw [upd_ne (ne_of_none e hD)]; exact s2 _ _ e
      · rw [upd_same, es]; unfold intL; rw [List.map_append]; rfl
    have hz : (intL (evs n (envOf ws) (rs.take j))).length < sizeLine := by rw [intL_len, el]; omega
    refine ⟨_, rfl, t, _, 0, _, rfl, rfl, SqT.of hT2, tag0 p, rfl, _, rfl, ?_⟩
    cases p with
    | get g =>
      have g0 := (ok.get _ _ hp).1
      have g1 := hg _ _ hp
      obtain ⟨i, rfl⟩ := Int.eq_ofNat_of_zero_le g0
      refine iteP (dT rfl) ?_
      refine ⟨_, rfl, .inl ⟨rfl, _, SqL.of h2⟩, _, rfl, _, rfl, t, _, 1, _, rfl, rfl, SqT.of hT2, rfl, q, _, _, _, rfl, rfl, SqL.of (s2 _ _ hq), intL_at (by omega), ?_⟩
      exact ⟨D, _, _, rfl, rfl, h2, hz, _, rfl, fin _ rfl⟩
    | num v =>
      have hv := ok.num _ _ hp
      refine iteN num_get_f ?_
      refine ⟨_, rfl, t, _, 0, _, rfl, rfl, SqT.of hT2, rfl, rfl, _, rfl, iteP (dT rfl) ?_⟩
      refine ⟨_, rfl, .inl ⟨rfl, _, SqL.of h2⟩, _, rfl, t, _, 1, _, rfl, rfl, SqT.of hT2, rfl, v, rfl, _, rfl, _, _, rfl, rfl, cpow1 (by omega) (by omega), _, _, rfl, rfl, two_pos _, ?_⟩
      have ev : v % (1 * 2 ^ (n : Int).toNat) = v := by rw [Int.one_mul, Int.toNat_natCast]; exact Int.emod_eq_of_lt hv.1 hv.2
      exact ⟨D, _, _, rfl, rfl, h2, hz, _, rfl, fin _ ev⟩
    | op o a b =>
      have ab := ok.wf _ _ _ _ hp
      refine iteN (op_get_f o) ?_
      refine ⟨_, rfl, t, _, 0, _, rfl, rfl, SqT.of hT2, rfl, rfl, _, rfl, iteN (op_num_f o) ?_⟩
      refine ⟨_, rfl, .inl ⟨rfl, _, SqL.of h2⟩, _, rfl, t, _, 0, _, rfl, rfl, SqT.of hT2, rfl, _, rfl, _, rfl, t, _, 1, _, rfl, rfl, SqT.of hT2, rfl, D, _, _, _, rfl, rfl, SqL.of h2, intL_at (by omega), _, rfl, _, rfl, t, _, 2, _, rfl, rfl, SqT.of hT2, rfl, D, _, _, _, rfl, rfl, SqL.of h2, intL_at (by omega), _, rfl, o, _, _, n, rfl, hn, ?_⟩
      exact ⟨D, _, _, rfl, rfl, h2, hz, _, rfl, fin _ rfl⟩
  rintro σ' H2 ⟨v4, rfl, s2, h2⟩
  rw [ex, List.take_length] at h2
  exact ⟨_, rfl, k H2 D s2 hD h2⟩
end
end My

/-! LJ -/
namespace My
open PySem L2
local macro_rules | `(tactic| walk_at "side") => `(tactic| first | with_reducible rfl | assumption | rfl | decide | omega | exact cpow1 (by omega) (by omega) | exact cdiv (by omega) (by omega) | exact two_pos _ | exact SqL.of (by assumption) | exact SqT.of (by assumption) | exact TyX.base (TyOf.int _) | exact TyX.base (TyOf.bl _) | exact TyX.base TyOf.non | exact scal_opt _ _ | exact k_ii | exact k_bi | exact k_ni | exact k_ib | exact k_bb | exact TyX.base (TyOf.lst (by assumption)) | exact k_ll | exact k_lt)
local macro_rules | `(tactic| walk_at "p") => `(tactic| repeat (first | refine And.intro (by walk_at "side") ?_ | apply Exists.intro | refine iteN (by assumption) ?_ | refine iteP (by assumption) ?_ | refine iteN (by decide) ?_ | refine iteP (by decide) ?_))

section
variable {P : Program} {w : World} {K : PySem.W.Frag} {mg : Str → Option Value} {base : Heap}
theorem neI {a b : Int} (h : a = b) : ¬ (!decide (V.int a = V.int b)) = true := by rw [h]; simp
/-- a pool stands where only a list changes that is not its own -/
theorem PoolAt.but {C : Addr} {H H' : Hp} {a l d b : Addr} {n : Nat} {ps : List Part} {xs : List V} (h : PoolAt C H a l d n ps) (hb : H b = some (.lst xs)) (hl : l ≠ b) (s : ∀ x o, H x = some o → x ≠ b → H' x = some o) : PoolAt C H' a l d n ps := by
  obtain ⟨dx, ho⟩ := id h.ob
  exact h.keep (S := fun x => x = b) (fun x o e hx => s x o e hx) (ne_of ho hb (by intro z; cases z)) hl (ne_of h.dic hb (by intro z; cases z)) fun t xs e => ne_of e hb (by intro z; cases z)
theorem LAt.but {H H' : Hp} {l b : Addr} {ps : List Part} {xs : List V} (h : LAt H l ps) (hb : H b = some (.lst xs)) (hl : l ≠ b) (s : ∀ x o, H x = some o → x ≠ b → H' x = some o) : LAt H' l ps :=
  h.keep (S := fun x => x = b) (fun x o e hx => s x o e hx) hl fun t xs e => ne_of e hb (by intro z; cases z)
theorem PoolAt.but2 {C : Addr} {H H' : Hp} {a l d b c : Addr} {n : Nat} {ps : List Part} {xs : List V} {kvs : List (List Key × V)} (h : PoolAt C H a l d n ps) (hb : H b = some (.lst xs)) (hc : H c = some (.dT kvs)) (hl : l ≠ b) (hd : d ≠ c) (s : ∀ x o, H x = some o → x ≠ b → x ≠ c → H' x = some o) : PoolAt C H' a l d n ps := by
  obtain ⟨dx, ho⟩ := id h.ob
  obtain ⟨ts, hL, _⟩ := id h.lst
  exact h.keep (S := fun x => x = b ∨ x = c) (fun x o e hx => s x o e (fun z => hx (.inl z)) fun z => hx (.inr z))
    (by rintro (z | z); exact ne_of ho hb (by intro z; cases z) z; exact ne_of ho hc (by intro z; cases z) z)
    (by rintro (z | z); exact hl z; exact ne_of hL hc (by intro z; cases z) z)
    (by rintro (z | z); exact ne_of h.dic hb (by intro z; cases z) z; exact hd z)
    (fun t xs e => by rintro (z | z); exact ne_of e hb (by intro z; cases z) z; exact ne_of e hc (by intro z; cases z) z)
theorem LAt.but2 {H H' : Hp} {l b c : Addr} {ps : List Part} {xs : List V} {kvs : List (List Key × V)} (h : LAt H l ps) (hb : H b = some (.lst xs)) (hc : H c = some (.dT kvs)) (hl : l ≠ b) (s : ∀ x o, H x = some o → x ≠ b → x ≠ c → H' x = some o) : LAt H' l ps := by
  obtain ⟨ts, hL, _⟩ := id h
  exact h.keep (S := fun x => x = b ∨ x = c) (fun x o e hx => s x o e (fun z => hx (.inl z)) fun z => hx (.inr z))
    (by rintro (z | z); exact hl z; exact ne_of hL hc (by intro z; cases z) z)
    (fun t xs e => by rintro (z | z); exact ne_of e hb (by intro z; cases z) z; exact ne_of e hc (by intro z; cases z) z)
def sp_law_all_made (T : Txt K mg) : Sp := fun vs H Q _ => ∃ (a lp d a2 lp2 d2 l R : Addr) (n u : Nat) (plain : Bool) (rs : List Part), vs = [.ref a, .ref a2, .ref l, .int n, .ref R] ∧ PoolAt T.C H a lp d n [] ∧ PoolAt T.C H a2 lp2 d2 n [] ∧ LAt H l [] ∧ LAt H R rs ∧ Rows n u plain rs ∧ 1 ≤ n ∧ n ≤ 12 ∧ rs.length < 60 ∧
  l ≠ lp ∧ R ≠ l ∧ R ≠ lp ∧ l ≠ lp2 ∧ R ≠ lp2 ∧ lp ≠ lp2 ∧ d ≠ d2 ∧
  ∀ (H' : Hp) (t : Addr), H t = none → PoolAt T.C H' a lp d n (mAll n rs).1 → PoolAt T.C H' a2 lp2 d2 n (mAll n rs).1 → LAt H' l (mAll n rs).1 → H' t = some (.lst (natL (mAll n rs).2)) → (∀ b o, H b = some o → b ≠ l → b ≠ lp → b ≠ d → b ≠ lp2 → b ≠ d2 → H' b = some o) → Q (.ref t) H'
theorem sp_law_all_made_len {T : Txt K mg} {vs H Q E} (h : sp_law_all_made T vs H Q E) : vs.length = 5 := by obtain ⟨_, _, _, _, _, _, _, _, _, _, _, _, rfl, _⟩ := h; rfl
theorem ok_law_all_made (T : Txt K mg) : FnOk P w K mg base CX0 6 T.f_law_all_made T.fd_law_all_made ["_law_pool", "_law_twin", "_law_parts", "_law_width", "_law_rows"] (sp_law_all_made T) := by
  have G_p_len := ok_p_len (P := P) (w := w) (base := base) T; have G_law_asked := ok_law_asked (P := P) (w := w) (base := base) T; have G_law_is_int := ok_law_is_int (P := P) (w := w) (base := base) T; have G_law_part := ok_law_part (P := P) (w := w) (base := base) T
  refine T.F_law_all_made.ok sc_law_all_made (fun vs H Q E h => sp_law_all_made_len h) (fun cdv A outer s H vs Q E hr h => ?_)
  obtain ⟨a, lp, d, a2, lp2, d2, l, R, n, u, plain, rs, rfl, hp, hq, hl, hR, ro, n1, n12, r60, llp, Rl, Rlp, llp2, Rlp2, pp, dd, k⟩ := h
  refine ⟨_, (pss_cons (ps_set (i := 5) sc_law_all_made.nd rfl (Or.inl rfl) (pe_lst pa_nil))
       (pss_cons (ps_for PassesOwn.never rfl (pi_list (pv 4)) (pg_name (i := 6) sc_law_all_made.nd rfl (Or.inl rfl))
        (pss_cons (ps_set (i := 7) sc_law_all_made.nd rfl (Or.inl rfl) (pe_callB (call_lenOwn T.m_p_len.1 (beq_iff_eq.mp T.m_p_len.2) G_p_len T.b_p_len (hr.mono (by decide))) (by rfl) T.n_len (by decide +kernel) (pa_cons (pv 0) pa_nil)))
       (pss_cons (ps_set (i := 8) sc_law_all_made.nd rfl (Or.inl rfl) (pe_call G_law_part (hr.mono (by decide)) rfl T.g_law_part T.F_law_part.kp T.b_law_part .nil pass0 (pa_cons (pv 2) (pa_cons (pv 3) (pa_cons (pv 6) (pa_cons (pv 5) pa_nil))))))
       (pss_cons (ps_set (i := 9) sc_law_all_made.nd rfl (Or.inl rfl) (pe_call G_law_asked hr rfl T.g_law_asked T.F_law_asked.kp T.b_law_asked .nil passL (pa_cons (pv 0) (pa_cons (pv 6) (pa_cons (pv 5) pa_nil)))))
       (pss_cons (ps_if (PW.pt (pw_or (pt_not (pt_val (pe_call G_law_is_int (hr.mono (by decide)) rfl T.g_law_is_int T.F_law_is_int.kp T.b_law_is_int .nil pass0 (pa_cons (pv 9) pa_nil)))) (pw_or (pt_cmpR op_ne (pv 9) (pv 8) (nomark _)) (pw_or (pt_cmpR op_gt (pe_op op_sub (pe_callB (call_lenOwn T.m_p_len.1 (beq_iff_eq.mp T.m_p_len.2) G_p_len T.b_p_len (hr.mono (by decide))) (by rfl) T.n_len (by decide +kernel) (pa_cons (pv 0) pa_nil)) (pv 7)) pe_int (nomark _)) (pw_or1 (pt_cmpR op_ne (pe_callB (call_lenOwn T.m_p_len.1 (beq_iff_eq.mp T.m_p_len.2) G_p_len T.b_p_len (hr.mono (by decide))) (by rfl) T.n_len (by decide +kernel) (pa_cons (pv 0) pa_nil)) (pe_callB call_lenL (by rfl) T.n_len (by decide +kernel) (pa_cons (pv 2) pa_nil)) (nomark _)))))))
        (pss_one (ps_ret (pe_lst pa_nil)))
        pss_nil)
       (pss_cons (ps_if (PW.pt (pw_or (pt_cmpR op_ne (pe_call G_law_asked hr rfl T.g_law_asked T.F_law_asked.kp T.b_law_asked .nil passL (pa_cons (pv 0) (pa_cons (pv 6) (pa_cons (pv 5) pa_nil)))) (pv 8) (nomark _)) (pw_or1 (pt_cmpR op_ne (pe_callB (call_lenOwn T.m_p_len.1 (beq_iff_eq.mp T.m_p_len.2) G_p_len T.b_p_len (hr.mono (by decide))) (by rfl) T.n_len (by decide +kernel) (pa_cons (pv 0) pa_nil)) (pe_callB call_lenL (by rfl) T.n_len (by decide +kernel) (pa_cons (pv 2) pa_nil)) (nomark _)))))
        (pss_one (ps_ret (pe_lst pa_nil)))
        pss_nil)
       (pss_cons (ps_if (pt_cmpR op_ne (pe_call G_law_asked hr rfl T.g_law_asked T.F_law_asked.kp T.b_law_asked .nil passL (pa_cons (pv 1) (pa_cons (pv 6) (pa_cons (pv 5) pa_nil)))) (pv 8) (nomark _))
        (pss_one (ps_ret (pe_lst pa_nil)))
        pss_nil)
       (pss_one (ps_expr (pe_bm PySem.F.plainAttrs_list PySem.F.slot_list_append PySem.F.type_list_append mt_append (pv 5) (pa_cons (pv 8) pa_nil)))))))))))
       (pss_one (ps_ret (pv 5))))), ?_⟩
  have sz : sizeLine = 16777216 := sizeLine_eq
  obtain ⟨xs, hX, ex, hit⟩ := hR.item
  obtain ⟨tsp, hlp, _⟩ := id hp.lst
  obtain ⟨tsq, hlq, _⟩ := id hq.lst
  obtain ⟨tsl, hll, _⟩ := id hl
  have hd := hp.dic
  have hd2 := hq.dic
  have Rd : R ≠ d := ne_of hX hd (by intro z; cases z)
  have Rd2 : R ≠ d2 := ne_of hX hd2 (by intro z; cases z)
  -- places = []
  refine ⟨Nat.zero_le _, fun D hD => ?_⟩
  have s1 := same_new (o := .lst []) hD
  have Dl : D ≠ l := fun e => by rw [e, hll] at hD; cases hD
  have Dlp : D ≠ lp := fun e => by rw [e, hlp] at hD; cases hD
  have Dd : D ≠ d := fun e => by rw [e, hd] at hD; cases hD
  have Dlp2 : D ≠ lp2 := fun e => by rw [e, hlq] at hD; cases hD
  have Dd2 : D ≠ d2 := fun e => by rw [e, hd2] at hD; cases hD
  refine ⟨_, rfl, R, rfl, ⟨_, SqL.of (s1 _ _ hX)⟩, ?_⟩
  refine for_list (K := K) (a := R) (xs := xs) (fun j σ' H2 => ∃ v6 v7 v8 v9 : Option V, σ' = [some (.ref a), some (.ref a2), some (.ref l), some (.int (n : Nat)), some (.ref R), some (.ref D), v6, v7, v8, v9] ∧ PoolAt T.C H2 a lp d n (mAll n (rs.take j)).1 ∧ PoolAt T.C H2 a2 lp2 d2 n (mAll n (rs.take j)).1 ∧ LAt H2 l (mAll n (rs.take j)).1 ∧ H2 D = some (.lst (natL (mAll n (rs.take j)).2)) ∧ (∀ b o, H b = some o → b ≠ l → b ≠ lp → b ≠ d → b ≠ lp2 → b ≠ d2 → H2 b = some o))
    ⟨none, none, none, none, rfl, hp.news s1, hq.news s1, hl.news s1, upd_same, fun b o e _ _ _ _ _ => s1 b o e⟩ ?_ ?_ ?_
  · rintro j σ' H2 _ ⟨_, _, _, _, _, _, _, _, _, f2⟩
    exact SqL.of (f2 _ _ hX Rl Rlp Rd Rlp2 Rd2)
  · rintro j x σ' H2 hj ⟨v6, v7, v8, v9, rfl, hp2, hq2, hl2, hD2, f2⟩
    have hjl := (List.getElem?_eq_some_iff.mp hj).1
    obtain ⟨r, hr'⟩ : ∃ p, rs[j]? = some p := ⟨_, List.getElem?_eq_getElem (by omega)⟩
    obtain ⟨t, ht, hT⟩ := hit j r hr'
    rw [hj] at ht
    cases ht
    have tl : t ≠ l := ne_of hT hll (by intro z; cases z)
    have tlp : t ≠ lp := ne_of hT hlp (by intro z; cases z)
    have td : t ≠ d := ne_of hT hd (by intro z; cases z)
    have tlp2 : t ≠ lp2 := ne_of hT hlq (by intro z; cases z)
    have td2 : t ≠ d2 := ne_of hT hd2 (by intro z; cases z)
    have hT2 := f2 _ _ hT tl tlp td tlp2 td2
    have inv := mAll_inv n1 ro j
    have hjt : (rs.take j).length = j := by rw [List.length_take]; omega
    have rk : RowOk n u plain (rs.take j).length r := by rw [hjt]; exact rowOk_at ro hr'
    have hin := inv.rowIn rk
    have il := inv.len
    have ip := inv.plen
    rw [hjt] at il ip
    have es : mAll n (rs.take (j + 1)) = mStep n (mAll n (rs.take j)) r := by rw [take_snoc hr', mAll_snoc]
    have ml := mPart_len (n := n) (ps := (mAll n (rs.take j)).1) (r := r) (pl := (mAll n (rs.take j)).2)
    have mpre := mPart_pre (n := n) (ps := (mAll n (rs.take j)).1) (r := r) (pl := (mAll n (rs.take j)).2)
    have mag := mPart_again hin
    have hin2 := hin.more mpre
    have mpl := mpre.length_le
    -- before
    obtain ⟨dx2, ho2⟩ := id hp2.ob
    refine ⟨_, rfl, a, dx2, _, _, rfl, ho2, ⟨a, lp, d, n, _, rfl, hp2, rfl, rfl⟩, by omega, ?_⟩
    -- due
    refine ⟨_, rfl, _, rfl, _, rfl, _, rfl, l, t, D, _, n, r, _, rfl, hl2, by omega, n12, hT2, hD2, hin, fun H3 hl3 f3 => ?_⟩
    obtain ⟨_, hll2, _⟩ := id hl2
    have hp3 := hp2.but hll2 llp.symm f3
    have hq3 := hq2.but hll2 llp2.symm f3
    have hT3 := f3 _ _ hT2 tl
    have hD3 := f3 _ _ hD2 Dl
    obtain ⟨_, hlp3, _⟩ := id hp3.lst
    have hd3 := hp3.dic
    -- told
    refine ⟨_, rfl, _, rfl, _, rfl, a, lp, d, t, D, _, n, r, _, rfl, hp3, by omega, n12, hT3, hD3, hin, fun H4 hp4 f4 => ?_⟩
    have hq4 := hq3.but2 hlp3 hd3 pp.symm dd.symm f4
    have hl4 := hl3.but2 hlp3 hd3 llp f4
    have hT4 := f4 _ _ hT3 tlp td
    have hD4 := f4 _ _ hD3 Dlp Dd
    generalize hM : mPart n (mAll n (rs.take j)).1 r (mAll n (rs.take j)).2 = M at *
    obtain ⟨dx4, ho4⟩ := id hp4.ob
    obtain ⟨zs4, hz4, ez4, _⟩ := hl4.item
    -- if ..: return []
    refine ⟨_, rfl, _, rfl, rfl, _, rfl, iteN (by show ¬ (!true) = true; decide) ?_⟩
    refine ⟨_, rfl, _, rfl, rfl, _, rfl, iteN (by simp) ?_⟩
    refine ⟨_, rfl, a, dx4, _, _, rfl, ho4, ⟨a, lp, d, n, _, rfl, hp4, rfl, rfl⟩, by omega, _, rfl, _, _, rfl, rfl, _, _, rfl, rfl, _, rfl, iteN (dF (by omega)) ?_⟩
    refine ⟨_, rfl, a, dx4, _, _, rfl, ho4, ⟨a, lp, d, n, _, rfl, hp4, rfl, rfl⟩, by omega, _, rfl, l, zs4, rfl, SqL.of hz4, rfl, _, rfl, iteN (neI (by rw [ez4])) ?_⟩
    -- once more
    refine ⟨_, rfl, _, rfl, _, rfl, a, lp, d, t, D, _, n, r, _, rfl, hp4, by omega, n12, hT4, hD4, hin2, fun H5 hp5 f5 => ?_⟩
    rw [mag] at hp5 ⊢
    obtain ⟨_, hlp4, _⟩ := id hp4.lst
    have hd4 := hp4.dic
    have hq5 := hq4.but2 hlp4 hd4 pp.symm dd.symm f5
    have hl5 := hl4.but2 hlp4 hd4 llp f5
    have hT5 := f5 _ _ hT4 tlp td
    have hD5 := f5 _ _ hD4 Dlp Dd
    obtain ⟨dx5, ho5⟩ := id hp5.ob
    obtain ⟨zs5, hz5, ez5, _⟩ := hl5.item
    refine ⟨_, rfl, rfl, _, rfl, iteN (by simp) ?_⟩
    refine ⟨_, rfl, a, dx5, _, _, rfl, ho5, ⟨a, lp, d, n, _, rfl, hp5, rfl, rfl⟩, by show M.2.length < 2 ^ 63; omega, _, rfl, l, zs5, rfl, SqL.of hz5, rfl, _, rfl, iteN (neI (by rw [ez5])) ?_⟩
    -- the twin
    refine ⟨_, rfl, _, rfl, _, rfl, a2, lp2, d2, t, D, _, n, r, _, rfl, hq5, by omega, n12, hT5, hD5, hin, fun H6 hq6 f6 => ?_⟩
    rw [hM] at hq6 ⊢
    obtain ⟨_, hlq5, _⟩ := id hq5.lst
    have hd25 := hq5.dic
    have hp6 := hp5.but2 hlq5 hd25 pp dd f6
    have hl6 := hl5.but2 hlq5 hd25 llp2 f6
    have hD6 := f6 _ _ hD5 Dlp2 Dd2
    refine ⟨_, rfl, rfl, _, rfl, iteN (by simp) ?_⟩
    -- places.append(due)
    have f : ∀ b o, H6 b = some o → b ≠ D → upd H6 D (.lst (natL (mAll n (rs.take j)).2 ++ [.int (M.1 : Nat)])) b = some o := fun b o e hb => by rw [upd_ne hb]; exact e
    have e1 : (mAll n (rs.take (j + 1))).1 = M.2 := by rw [es]; show (mPart n _ r _).2 = _; rw [hM]
    have e2 : (mAll n (rs.take (j + 1))).2 = (mAll n (rs.take j)).2 ++ [M.1] := by rw [es]; show _ ++ [(mPart n _ r _).1] = _; rw [hM]
    refine ⟨_, rfl, .inl ⟨rfl, _, SqL.of hD6⟩, _, rfl, D, _, _, rfl, rfl, hD6, by rw [natL_len]; omega, _, _, _, _, rfl, ?_, ?_, ?_, ?_, fun b o e h1 h2 h3 h4 h5 => ?_⟩
    · rw [e1]; exact hp6.but hD6 Dlp.symm f
    · rw [e1]; exact hq6.but hD6 Dlp2.symm f
    · rw [e1]; exact hl6.but hD6 Dl.symm f
    · rw [upd_same, e2, natL_snoc]
    · rw [upd_ne (ne_of_none e hD)]; exact f6 _ _ (f5 _ _ (f4 _ _ (f3 _ _ (f2 _ _ e h1 h2 h3 h4 h5) h1) h2 h3) h2 h3) h4 h5
  rintro σ' H2 ⟨v6, v7, v8, v9, rfl, hp2, hq2, hl2, hD2, f2⟩
  rw [ex, List.take_length] at hp2 hq2 hl2 hD2
  exact ⟨_, rfl, k H2 D hD hp2 hq2 hl2 hD2 f2⟩
end
end My

/-! LK -/
namespace My
open PySem L2
local macro_rules | `(tactic| walk_at "side") => `(tactic| first | with_reducible rfl | assumption | rfl | decide | omega | exact cpow1 (by omega) (by omega) | exact cdiv (by omega) (by omega) | exact two_pos _ | exact SqL.of (by assumption) | exact SqT.of (by assumption) | exact TyX.base (TyOf.int _) | exact TyX.base (TyOf.bl _) | exact TyX.base TyOf.non | exact scal_opt _ _ | exact k_ii | exact k_bi | exact k_ni | exact k_ib | exact k_bb | exact TyX.base (TyOf.lst (by assumption)) | exact k_ll | exact k_lt)
local macro_rules | `(tactic| walk_at "p") => `(tactic| repeat (first | refine And.intro (by walk_at "side") ?_ | apply Exists.intro | refine iteN (by assumption) ?_ | refine iteP (by assumption) ?_ | refine iteN (by decide) ?_ | refine iteP (by decide) ?_))

/-! ### rows of ints compared -/
theorem dpAll_ints {K : PySem.W.Frag} {H : Hp} : ∀ ws : List Int, DpAll K H (ws.map V.int) (ws.map PyData.int)
  | [] => .nil
  | x :: ws => .cons (.int x) (dpAll_ints ws)
theorem depth_ints : ∀ ws : List Int, PyData.depthAll (ws.map PyData.int) ≤ 1
  | [] => by simp [PyData.depthAll]
  | x :: ws => by
    have := depth_ints ws
    simp [PyData.depthAll, PyData.depth]; omega
theorem lay_ints : ∀ ws : List Int, PyData.canLayAll0 (ws.map PyData.int) = true
  | [] => by simp [PyData.canLayAll0]
  | x :: ws => by simp [PyData.canLayAll0, PyData.canLay0, lay_ints ws]
theorem eqv_ints : ∀ ws : List Int, PyData.eqvAll (ws.map PyData.int) (ws.map PyData.int) = true
  | [] => by simp [PyData.eqvAll]
  | x :: ws => by simp [PyData.eqvAll, PyData.eqv, eqv_ints ws]
theorem shaped_ints (ws : List Int) : SeqAt.shaped (.list (ws.map PyData.int)) = true ∧ SeqAt.shaped (.tuple (ws.map PyData.int)) = true := by
  have h1 := lay_ints ws
  have h2 := depth_ints ws
  constructor <;> (simp [SeqAt.shaped, PyData.canLay0, PyData.depth, h1]; omega)
section
variable {P : Program} {w : World} {K : PySem.W.Frag} {mg : Str → Option Value} {base : Heap}
theorem eqI {H : Hp} {a b : Addr} {ws : List Int} {Q : VK} (ha : SqL K H a (ws.map V.int)) (hb : SqL K H b (ws.map V.int)) (k : Q (.bl true) H) : rEqD K (.ref a) (.ref b) H Q :=
  ⟨_, _, .lst ha (dpAll_ints ws), .lst hb (dpAll_ints ws), (shaped_ints ws).1, (shaped_ints ws).1, by rw [show PyData.eqv (.list (ws.map PyData.int)) (.list (ws.map PyData.int)) = true by simp [PyData.eqv, eqv_ints ws]]; exact k⟩
theorem neIL {H : Hp} {a b : Addr} {ws : List Int} {Q : VK} (ha : SqL K H a (ws.map V.int)) (hb : SqL K H b (ws.map V.int)) (k : Q (.bl false) H) : rNeD K (.ref a) (.ref b) H Q :=
  ⟨_, _, .lst ha (dpAll_ints ws), .lst hb (dpAll_ints ws), (shaped_ints ws).1, (shaped_ints ws).1, by rw [show PyData.eqv (.list (ws.map PyData.int)) (.list (ws.map PyData.int)) = true by simp [PyData.eqv, eqv_ints ws]]; exact k⟩
theorem eqIT {H : Hp} {a b : Addr} {ws : List Int} {Q : VK} (ha : SqT K H a (ws.map V.int)) (hb : SqT K H b (ws.map V.int)) (k : Q (.bl true) H) : rEqD K (.ref a) (.ref b) H Q :=
  ⟨_, _, .tup ha (dpAll_ints ws), .tup hb (dpAll_ints ws), (shaped_ints ws).2, (shaped_ints ws).2, by rw [show PyData.eqv (.tuple (ws.map PyData.int)) (.tuple (ws.map PyData.int)) = true by simp [PyData.eqv, eqv_ints ws]]; exact k⟩
theorem neIT {H : Hp} {a b : Addr} {ws : List Int} {Q : VK} (ha : SqT K H a (ws.map V.int)) (hb : SqT K H b (ws.map V.int)) (k : Q (.bl false) H) : rNeD K (.ref a) (.ref b) H Q :=
  ⟨_, _, .tup ha (dpAll_ints ws), .tup hb (dpAll_ints ws), (shaped_ints ws).2, (shaped_ints ws).2, by rw [show PyData.eqv (.tuple (ws.map PyData.int)) (.tuple (ws.map PyData.int)) = true by simp [PyData.eqv, eqv_ints ws]]; exact k⟩
theorem neL {H : Hp} {l m : Addr} {ps : List Part} {Q : VK} (hl : LAt H l ps) (hm : LAt H m ps) (h : Q (.bl false) H) : rNeD K (.ref l) (.ref m) H Q :=
  ⟨_, _, dp_list hl, dp_list hm, shaped_list ps, shaped_list ps, by
    rw [show PyData.eqv (.list (ps.map Part.pd)) (.list (ps.map Part.pd)) = true by simp [PyData.eqv, eqvAll_parts ps]]; exact h⟩
theorem neP {H : Hp} {t u : Addr} {p : Part} {Q : VK} (ht : H t = some (.tup p.vals)) (hu : H u = some (.tup p.vals)) (h : Q (.bl false) H) : rNeD K (.ref t) (.ref u) H Q :=
  ⟨p.pd, p.pd, dp_part ht, dp_part hu, shaped_part p, shaped_part p, by rw [eqv_pd, decide_eq_true rfl]; exact h⟩
/-- what list(pool) asks -/
theorem listFacts (T : Txt K mg) {H : Hp} {a l d : Addr} {n : Nat} {ps : List Part} (hp : PoolAt T.C H a l d n ps) (hz : ps.length < 4000) :
    ∃ dx l' ys, H a = some (.ins T.C dx (poolF n l d)) ∧ H l' = some (.lst ys) ∧ ys.length < sizeLine ∧
    (∀ H1, Same H H1 → sp_p_iter T [.ref a] H1 (fun v H' => ∃ it, v = .ref it ∧ H1 it = none ∧ H' = upd H1 it (ItO l' it 0)) E0 ∧ sp_p_len T [.ref a] H1 (fun v H' => v = .int (ys.length : Nat) ∧ H' = H1) E0) ∧
    ∀ (q : Addr) (H' : Hp), Same H H' → H' q = some (.lst ys) → LAt H' q ps := by
  obtain ⟨dx, ho⟩ := id hp.ob
  obtain ⟨ts, hL, hT⟩ := id hp.lst
  have sz : sizeLine = 16777216 := sizeLine_eq
  have el : (ts.map V.ref).length = ps.length := by rw [List.length_map]; exact hT.1
  refine ⟨dx, l, _, ho, hL, by omega, fun H1 s => ⟨⟨a, l, d, n, ps, rfl, hp.news s, fun it h => ⟨it, rfl, h, rfl⟩⟩, ⟨a, l, d, n, ps, rfl, hp.news s, by rw [el], rfl⟩⟩, fun q H' s hq' => ⟨ts, hq', hT.1, fun i p e => ?_⟩⟩
  obtain ⟨t, e1, e2⟩ := hT.2 i p e
  exact ⟨t, e1, s _ _ e2⟩
def sp_law_told_parts (T : Txt K mg) : Sp := fun vs H Q _ => ∃ (a l d L : Addr) (n : Nat) (ps : List Part), vs = [.ref a, .ref L] ∧ PoolAt T.C H a l d n ps ∧ LAt H L ps ∧ ps.length ≤ 1000 ∧ ∀ H', Same H H' → Q (.bl true) H'
theorem sp_law_told_parts_len {T : Txt K mg} {vs H Q E} (h : sp_law_told_parts T vs H Q E) : vs.length = 2 := by obtain ⟨_, _, _, _, _, _, rfl, _⟩ := h; rfl
theorem ok_law_told_parts (T : Txt K mg) : FnOk P w K mg base CX0 5 T.f_law_told_parts T.fd_law_told_parts ["_law_pool", "_law_parts"] (sp_law_told_parts T) := by
  have G_p_iter := ok_p_iter (P := P) (w := w) (base := base) T; have G_p_len := ok_p_len (P := P) (w := w) (base := base) T; have G_p_part := ok_p_part (P := P) (w := w) (base := base) T
  refine T.F_law_told_parts.ok sc_law_told_parts (fun vs H Q E h => sp_law_told_parts_len h) (fun cdv A outer s H vs Q E hr h => ?_)
  obtain ⟨a, l, d, L, n, ps, rfl, hp, hL, h10, k⟩ := h
  refine ⟨_, (pss_cons (ps_if (PW.pt (pw_or (pt_cmpR (op_neD hr.units) (pe_callTy (call_listOwn2 T.m_p_iter.1 T.m_p_iter.2 T.m_p_len.1 (beq_iff_eq.mp T.m_p_len.2) G_p_iter T.b_p_iter G_p_len T.b_p_len rfl (hr.mono (by decide))) (by rfl) T.n_list (by decide +kernel) (pa_cons (pv 0) pa_nil)) (pv 1) (nomark _)) (pw_or1 (pt_cmpR op_ne (pe_callB (call_lenOwn T.m_p_len.1 (beq_iff_eq.mp T.m_p_len.2) G_p_len T.b_p_len (hr.mono (by decide))) (by rfl) T.n_len (by decide +kernel) (pa_cons (pv 0) pa_nil)) (pe_callB call_lenL (by rfl) T.n_len (by decide +kernel) (pa_cons (pv 1) pa_nil)) (nomark _)))))
        (pss_one (ps_ret pe_bl))
        pss_nil)
       (pss_cons (ps_for PassesOwn.never rfl (pi_range1 (by rfl) T.n_range (pa_cons (pe_callB call_lenL (by rfl) T.n_len (by decide +kernel) (pa_cons (pv 1) pa_nil)) pa_nil)) (pg_name (i := 2) sc_law_told_parts.nd rfl (Or.inl rfl))
        (pss_one (ps_if (pt_cmpR (op_neD hr.units) (pe_meth (pv 0) T.cl T.m_p_part G_p_part (hr.mono (by decide)) T.b_p_part .nil passL (pa_cons (pv 2) pa_nil)) (pe_ix ix_list (pv 1) (pv 2) (fun _ _ => rfl)) (nomark _))
        (pss_one (ps_ret pe_bl))
        pss_nil)))
       (pss_one (ps_ret pe_bl)))), ?_⟩
  obtain ⟨xs, hX, ex, hit⟩ := hL.item
  obtain ⟨dx, l', ys, o1, o2, o3, o4, o5⟩ := listFacts T hp (by omega)
  refine ⟨_, rfl, a, dx, _, l', ys, rfl, o1, o2, o3, o4, fun g H1 hg s1 hg1 => ⟨_, rfl, neL (o5 g H1 s1 hg1) (hL.news s1) ⟨_, rfl, iteN (by decide) ?_⟩⟩⟩
  have hp1 := hp.news s1
  have o1' := s1 _ _ o1
  have hX1 := s1 _ _ hX
  refine ⟨_, rfl, a, dx, _, ps.length, rfl, o1', ⟨a, l, d, n, ps, rfl, hp1, rfl, rfl⟩, by omega, _, rfl, L, xs, rfl, SqL.of hX1, rfl, _, rfl, iteN (neI (by rw [ex])) ?_⟩
  refine ⟨_, rfl, L, xs, rfl, SqL.of hX1, _, rfl, by omega, by omega, ?_⟩
  refine for_range (lo := 0) (n := ((xs.length : Nat) : Int).toNat) (fun i σ' H' => H' = H1 ∧ ∃ v2 : Option V, σ' = [some (.ref a), some (.ref L), v2]) ⟨rfl, none, rfl⟩ ?_ ?_
  · rintro i σ' H' hi ⟨rfl, v2, rfl⟩
    rw [Int.toNat_natCast, ex] at hi
    obtain ⟨p, hpi⟩ : ∃ p, ps[i]? = some p := ⟨_, List.getElem?_eq_getElem hi⟩
    obtain ⟨t, ht, hT⟩ := hit i p hpi
    refine ⟨_, rfl, a, dx, _, rfl, o1', no_meth (by decide +kernel), _, rfl, a, l, d, n, ps, i, p, by rw [Int.zero_add]; rfl, hp1, hpi, fun t' ht' => ?_⟩
    refine ⟨_, rfl, _, rfl, L, xs, _, _, rfl, rfl, SqL.of hX1, at_of (j := i) (by omega) ht, neP ht' (s1 _ _ hT) ⟨_, rfl, iteN (by decide) ⟨rfl, _, rfl⟩⟩⟩
  · rintro σ' H' ⟨rfl, v2, rfl⟩
    exact k H' s1
end
end My

/-! LL -/
namespace My
open PySem L2
local macro_rules | `(tactic| walk_at "side") => `(tactic| first | with_reducible rfl | assumption | rfl | decide | omega | exact cpow1 (by omega) (by omega) | exact cdiv (by omega) (by omega) | exact two_pos _ | exact SqL.of (by assumption) | exact SqT.of (by assumption) | exact TyX.base (TyOf.int _) | exact TyX.base (TyOf.bl _) | exact TyX.base TyOf.non | exact scal_opt _ _ | exact k_ii | exact k_bi | exact k_ni | exact k_ib | exact k_bb | exact TyX.base (TyOf.lst (by assumption)) | exact k_ll | exact k_lt)
local macro_rules | `(tactic| walk_at "p") => `(tactic| repeat (first | refine And.intro (by walk_at "side") ?_ | apply Exists.intro | refine iteN (by assumption) ?_ | refine iteP (by assumption) ?_ | refine iteN (by decide) ?_ | refine iteP (by decide) ?_))

/-! ### what stands behind the rows -/
structure Pu (n u : Nat) (rs ps : List Part) (pl : List Nat) : Prop where
  n1 : 1 ≤ n
  n12 : n ≤ 12
  u3 : u ≤ 3
  ro : Rows n u false rs
  po : Rows n u false ps
  r1 : 2 ≤ rs.length
  r60 : rs.length < 60
  plen : pl.length = rs.length
  ple : ps.length ≤ 200
  there : ∀ k ∈ pl, k < ps.length
  words : ∀ env : Int → Int, EnvG n env → ∀ k, k < rs.length → evAt n env ps (pl.getD k 0) = evAt n env rs k
theorem Pu.at {n u : Nat} {rs ps : List Part} {pl : List Nat} (h : Pu n u rs ps pl) {k : Nat} (hk : k < rs.length) : pl.getD k 0 < ps.length := by
  rw [List.getD_eq_getElem?_getD, List.getElem?_eq_getElem (by rw [h.plen]; exact hk)]
  exact h.there _ (List.getElem_mem _)
structure LS (C : Addr) (H : Hp) (n : Nat) (rs ps : List Part) (pl : List Nat) (p q a l d L R Pl : Addr) : Prop where
  dr : Dr H p q
  pool : PoolAt C H a l d n ps
  parts : LAt H L ps
  rows : LAt H R rs
  places : H Pl = some (.lst (natL pl))
structure Ne (p q l d L R Pl : Addr) : Prop where
  pq : p ≠ q
  lp : l ≠ p
  lq : l ≠ q
  Lq : L ≠ q
  Lp : L ≠ p
  Rp : R ≠ p
  Plp : Pl ≠ p
  Ll : L ≠ l
  Rl : R ≠ l
  RL : R ≠ L
  Pll : Pl ≠ l
  PlL : Pl ≠ L
/-- what stands stays but at p -/
def Fr (p : Addr) (H H' : Hp) : Prop := ∀ b o, H b = some o → b ≠ p → H' b = some o
theorem Fr.same {p : Addr} {H H' : Hp} (h : Same H H') : Fr p H H' := fun b o e _ => h b o e
theorem Fr.trans {p : Addr} {H H' H2 : Hp} (h : Fr p H H') (h' : Fr p H' H2) : Fr p H H2 := fun b o e hb => h' b o (h b o e hb) hb
section
variable {C : Addr} {H H' : Hp} {n u : Nat} {rs ps : List Part} {pl : List Nat} {p q a l d L R Pl : Addr}
theorem LS.news (h : LS C H n rs ps pl p q a l d L R Pl) (s : Same H H') : LS C H' n rs ps pl p q a l d L R Pl := ⟨h.dr.news s, h.pool.news s, h.parts.news s, h.rows.news s, s _ _ h.places⟩
theorem LS.take (h : LS C H n rs ps pl p q a l d L R Pl) (e : Ne p q l d L R Pl) (dr : Dr H' p q) (f : Fr p H H') : LS C H' n rs ps pl p q a l d L R Pl := by
  obtain ⟨_, _, hp, _⟩ := h.dr
  exact ⟨dr, h.pool.but hp e.lp f, h.parts.but hp e.Lp f, h.rows.but hp e.Rp f, f _ _ h.places e.Plp⟩
/-- a list that was made here and nobody else names changes -/
theorem LS.own (h : LS C H n rs ps pl p q a l d L R Pl) {W : Addr} {xs ys : List V} (hW : H W = some (.lst xs)) (Wp : W ≠ p) (Wq : W ≠ q) (Wl : W ≠ l) (WL : W ≠ L) (WR : W ≠ R) (WP : W ≠ Pl) : LS C (upd H W (.lst ys)) n rs ps pl p q a l d L R Pl := by
  have f : ∀ b o, H b = some o → b ≠ W → upd H W (.lst ys) b = some o := fun b o e hb => by rw [upd_ne hb]; exact e
  exact ⟨h.dr.upd Wp Wq, h.pool.but hW Wl.symm f, h.parts.but hW WL.symm f, h.rows.but hW WR.symm f, f _ _ h.places WP.symm⟩
end
structure Off (p q l d L R Pl W : Addr) : Prop where
  o1 : W ≠ p
  o2 : W ≠ q
  o3 : W ≠ l
  o4 : W ≠ L
  o5 : W ≠ R
  o6 : W ≠ Pl
  o7 : W ≠ d
theorem LS.off {C : Addr} {H : Hp} {n : Nat} {rs ps : List Part} {pl : List Nat} {p q a l d L R Pl W : Addr} (h : LS C H n rs ps pl p q a l d L R Pl) (hW : H W = none) : Off p q l d L R Pl W := by
  obtain ⟨_, _, h1, h2, _⟩ := h.dr
  obtain ⟨_, h3, _⟩ := h.pool.lst
  obtain ⟨_, h4, _⟩ := h.parts
  obtain ⟨_, h5, _⟩ := h.rows
  exact ⟨(ne_of_none h1 hW).symm, (ne_of_none h2 hW).symm, (ne_of_none h3 hW).symm, (ne_of_none h4 hW).symm, (ne_of_none h5 hW).symm, (ne_of_none h.places hW).symm, (ne_of_none h.pool.dic hW).symm⟩
theorem LS.upd {C : Addr} {H : Hp} {n : Nat} {rs ps : List Part} {pl : List Nat} {p q a l d L R Pl W : Addr} {xs ys : List V} (h : LS C H n rs ps pl p q a l d L R Pl) (o : Off p q l d L R Pl W) (hW : H W = some (.lst xs)) : LS C (upd H W (.lst ys)) n rs ps pl p q a l d L R Pl :=
  h.own hW o.o1 o.o2 o.o3 o.o4 o.o5 o.o6
theorem intL_snoc (ws : List Int) (v : Int) : intL (ws ++ [v]) = intL ws ++ [.int v] := by unfold intL; rw [List.map_append]; rfl
section
variable {P : Program} {w : World} {K : PySem.W.Frag} {mg : Str → Option Value} {base : Heap}
def sp_law_right_words (T : Txt K mg) : Sp := fun vs H Q _ => ∃ (p q a l d L R Pl : Addr) (n u : Nat) (rs ps : List Part) (pl : List Nat), vs = [.ref p, .ref a, .ref R, .ref Pl, .int u, .int n] ∧ LS T.C H n rs ps pl p q a l d L R Pl ∧ Ne p q l d L R Pl ∧ Pu n u rs ps pl ∧
  ∀ H', LS T.C H' n rs ps pl p q a l d L R Pl → Fr p H H' → Q (.bl true) H'
theorem sp_law_right_words_len {T : Txt K mg} {vs H Q E} (h : sp_law_right_words T vs H Q E) : vs.length = 6 := by obtain ⟨_, _, _, _, _, _, _, _, _, _, _, _, _, rfl, _⟩ := h; rfl
theorem ok_law_right_words (T : Txt K mg) : FnOk P w K mg base CX0 7 T.f_law_right_words T.fd_law_right_words ["_law_draws_here", "_law_pool", "_law_rows", "_law_places", "_law_unknowns", "_law_width"] (sp_law_right_words T) := by
  have G_p_value := ok_p_value (P := P) (w := w) (base := base) T; have G_law_is_int := ok_law_is_int (P := P) (w := w) (base := base) T; have G_law_row_words := ok_law_row_words (P := P) (w := w) (base := base) T; have G_law_word := ok_law_word (P := P) (w := w) (base := base) T
  refine T.F_law_right_words.ok sc_law_right_words (fun vs H Q E h => sp_law_right_words_len h) (fun cdv A outer s H vs Q E hr h => ?_)
  obtain ⟨p, q, a, l, d, L, R, Pl, n, u, rs, ps, pl, rfl, st, ne, pu, k⟩ := h
  refine ⟨_, (pss_cons (ps_set (i := 6) sc_law_right_words.nd rfl (Or.inl rfl) (pe_lst pa_nil))
       (pss_cons (ps_for PassesOwn.never rfl (pi_range1 (by rfl) T.n_range (pa_cons (pv 4) pa_nil)) (pg_name (i := 7) sc_law_right_words.nd rfl (Or.inl rfl))
        (pss_one (ps_expr (pe_bm PySem.F.plainAttrs_list PySem.F.slot_list_append PySem.F.type_list_append mt_append (pv 6) (pa_cons (pe_call G_law_word (hr.mono (by decide)) rfl T.g_law_word T.F_law_word.kp T.b_law_word .nil pass0 (pa_cons (pv 0) (pa_cons (pv 5) pa_nil))) pa_nil)))))
       (pss_cons (ps_set (i := 8) sc_law_right_words.nd rfl (Or.inl rfl) (pe_callTy call_listL (by rfl) T.n_list (by decide +kernel) (pa_cons (pv 6) pa_nil)))
       (pss_cons (ps_set (i := 9) sc_law_right_words.nd rfl (Or.inl rfl) (pe_call G_law_row_words (hr.mono (by decide)) rfl T.g_law_row_words T.F_law_row_words.kp T.b_law_row_words .nil pass0 (pa_cons (pv 2) (pa_cons (pv 6) (pa_cons (pv 5) pa_nil)))))
       (pss_cons (ps_for PassesOwn.never rfl (pi_range1 (by rfl) T.n_range (pa_cons (pe_callB call_lenL (by rfl) T.n_len (by decide +kernel) (pa_cons (pv 3) pa_nil)) pa_nil)) (pg_name (i := 10) sc_law_right_words.nd rfl (Or.inl rfl))
        (pss_cons (ps_set (i := 11) sc_law_right_words.nd rfl (Or.inl rfl) (pe_meth (pv 1) T.cl T.m_p_value G_p_value hr T.b_p_value .nil passL (pa_cons (pe_ix ix_list (pv 3) (pv 10) (fun _ _ => rfl)) (pa_cons (pv 6) pa_nil))))
       (pss_one (ps_if (PW.pt (pw_or (pt_not (pt_val (pe_call G_law_is_int (hr.mono (by decide)) rfl T.g_law_is_int T.F_law_is_int.kp T.b_law_is_int .nil pass0 (pa_cons (pv 11) pa_nil)))) (pw_or1 (pt_cmpR op_ne (pv 11) (pe_ix ix_list (pv 9) (pv 10) (fun _ _ => rfl)) (nomark _)))))
        (pss_one (ps_ret pe_bl))
        pss_nil))))
       (pss_one (ps_ret (pe_and (pe_cmpR (op_eqD hr.units) (pv 6) (pv 8) (nomark _)) (pe_one (pe_cmpR op_eq (pe_meth (pv 1) T.cl T.m_p_value G_p_value hr T.b_p_value .nil passL (pa_cons (pe_ix ix_list (pv 3) (pe_op op_sub (pe_callB call_lenL (by rfl) T.n_len (by decide +kernel) (pa_cons (pv 3) pa_nil)) pe_int) (fun _ _ => rfl)) (pa_cons (pe_callTy call_tupleL (by rfl) T.n_tuple (by decide +kernel) (pa_cons (pv 8) pa_nil)) pa_nil))) (pe_ix ix_list (pv 9) (pe_op op_sub (pe_callB call_lenL (by rfl) T.n_len (by decide +kernel) (pa_cons (pv 9) pa_nil)) pe_int) (fun _ _ => rfl)) (nomark _))))))))))), ?_⟩
  have sz : sizeLine = 16777216 := sizeLine_eq
  have u3 := pu.u3
  have n12 := pu.n12
  have n1 := pu.n1
  have r1 := pu.r1
  have r60 := pu.r60
  have ple := pu.ple
  have plen := pu.plen
  -- words
  refine ⟨Nat.zero_le _, fun W hW => ?_⟩
  have oW := st.off hW
  have s1 := same_new (o := .lst []) hW
  refine ⟨_, rfl, u, rfl, by omega, by omega, ?_⟩
  refine for_range (lo := 0) (n := ((u : Nat) : Int).toNat) (fun j σ' H1 => ∃ (v7 : Option V) (ws : List Int), σ' = [some (.ref p), some (.ref a), some (.ref R), some (.ref Pl), some (.int (u : Nat)), some (.int (n : Nat)), some (.ref W), v7, none, none, none, none] ∧ LS T.C H1 n rs ps pl p q a l d L R Pl ∧ Fr p H H1 ∧ H1 W = some (.lst (intL ws)) ∧ ws.length = j ∧ ∀ x ∈ ws, 0 ≤ x ∧ x < 2 ^ n)
    ⟨none, [], rfl, st.news s1, .same s1, upd_same, rfl, by simp⟩ ?_ ?_
  · rintro j σ' H1 hj ⟨v7, ws, rfl, st1, f1, hw1, hwl, gws⟩
    rw [Int.toNat_natCast] at hj
    refine ⟨_, rfl, .inl ⟨rfl, _, SqL.of hw1⟩, _, rfl, _, rfl, p, q, n, rfl, st1.dr, ne.pq, n12, fun H2 v v0 v1 d2 f2 => ?_⟩
    have st2 := st1.take ne d2 f2
    have hw2 := f2 _ _ hw1 oW.o1
    refine ⟨W, _, _, rfl, rfl, hw2, by rw [intL_len]; omega, _, ws ++ [v], rfl, st2.upd oW hw2, fun b o e hb => ?_, by rw [upd_same, intL_snoc], by simp [hwl], fun x hx => ?_⟩
    · rw [upd_ne (ne_of_none e hW)]; exact f2 _ _ (f1 _ _ e hb) hb
    · rcases List.mem_append.mp hx with hx | hx
      · exact gws x hx
      · simp at hx; subst hx; exact ⟨v0, v1⟩
  rintro σ' H1 ⟨v7, ws, rfl, st1, f1, hw1, hwl, gws⟩
  rw [Int.toNat_natCast] at hwl
  -- kept = list(words); due
  refine ⟨_, rfl, W, _, rfl, SqL.of hw1, fun Kp hKp => ?_⟩
  have s2 := same_new (o := .lst (intL ws)) hKp
  have hk2 : upd H1 Kp (.lst (intL ws)) Kp = some (.lst (intL ws)) := upd_same
  have st2 := st1.news s2
  have hw2 := s2 _ _ hw1
  generalize upd H1 Kp (.lst (intL ws)) = H2 at *
  refine ⟨_, rfl, _, rfl, _, rfl, R, W, n, u, rs, ws, rfl, st2.rows, hw2, pu.ro.ok, fun k g e => (by have := pu.ro.gets k g e; omega), n12, by omega, fun H3 Du s3 hDu hD3 => ?_⟩
  have st3 := st2.news s3
  have hw3 := s3 _ _ hw2
  have hk3 := s3 _ _ hk2
  have f3 : Fr p H H3 := f1.trans (.same (s2.trans s3))
  have ge := env_of gws
  have del : (evs n (envOf ws) rs).length = rs.length := evs_len _ _ _
  have gw : ∀ (k : Nat) (g : Int), ps[k]? = some (Part.get g) → g < ws.length := fun k g e => by have := pu.po.gets k g e; omega
  -- each place
  refine ⟨_, rfl, Pl, _, rfl, SqL.of st3.places, _, rfl, by rw [natL_len]; omega, by rw [natL_len]; omega, ?_⟩
  refine for_range (lo := 0) (n := (((natL pl).length : Nat) : Int).toNat) (fun j σ' H4 => ∃ v10 v11 : Option V, σ' = [some (.ref p), some (.ref a), some (.ref R), some (.ref Pl), some (.int (u : Nat)), some (.int (n : Nat)), some (.ref W), v7, some (.ref Kp), some (.ref Du), v10, v11] ∧ Same H3 H4)
    ⟨none, none, rfl, Same.refl _⟩ ?_ ?_
  · rintro j σ' H4 hj ⟨v10, v11, rfl, s4⟩
    rw [Int.toNat_natCast, natL_len, plen] at hj
    have st4 := st3.news s4
    obtain ⟨dx, ho⟩ := id st4.pool.ob
    rw [Int.zero_add]
    refine ⟨_, rfl, a, dx, _, rfl, ho, no_meth (by decide +kernel), _, rfl, _, rfl, Pl, _, _, _, rfl, rfl, SqL.of st4.places, natL_at (by omega), _, rfl, a, l, d, W, n, ps, _, ws, rfl, st4.pool, pu.po.ok, by omega, n12, pu.at hj, .inl (s4 _ _ hw3), gws, gw, fun H5 s5 => ?_⟩
    rw [pu.words _ ge j hj]
    have s45 := s4.trans s5
    refine ⟨_, rfl, _, rfl, rfl, _, rfl, iteN (by show ¬ (!true) = true; decide) ?_⟩
    refine ⟨_, rfl, _, rfl, _, rfl, Du, _, _, _, rfl, rfl, SqL.of (s45 _ _ hD3), intL_at (by omega), rfl, _, rfl, iteN (neI rfl) ?_⟩
    exact ⟨_, _, rfl, s45⟩
  rintro σ' H4 ⟨v10, v11, rfl, s4⟩
  have st4 := st3.news s4
  obtain ⟨dx, ho⟩ := id st4.pool.ob
  obtain ⟨last, elast, hlast⟩ : ∃ last : Nat, ((rs.length : Nat) : Int) - 1 = (last : Nat) ∧ last + 1 = rs.length := ⟨rs.length - 1, by omega, by omega⟩
  have hat1 : atI (natL pl) ((((natL pl).length : Nat) : Int) - 1) = some (.int (pl.getD last 0 : Nat)) := by rw [natL_len, plen, elast]; exact natL_at (by omega)
  have hat2 : atI (intL (evs n (envOf ws) rs)) ((((intL (evs n (envOf ws) rs)).length : Nat) : Int) - 1) = some (.int ((evs n (envOf ws) rs).getD last 0)) := by rw [intL_len, del, elast]; exact intL_at (by omega)
  refine ⟨_, rfl, _, rfl, eqI (SqL.of (s4 _ _ hw3)) (SqL.of (s4 _ _ hk3)) ⟨_, rfl, iteP rfl ?_⟩⟩
  refine ⟨_, rfl, a, dx, _, rfl, ho, no_meth (by decide +kernel), _, rfl, _, rfl, Pl, _, rfl, SqL.of st4.places, _, _, rfl, rfl, Pl, _, _, _, rfl, rfl, SqL.of st4.places, hat1, _, rfl, Kp, _, rfl, SqL.of (s4 _ _ hk3), fun t ht => ?_⟩
  have s5 := same_new (o := .tup (intL ws)) ht
  refine ⟨a, l, d, t, n, ps, _, ws, rfl, st4.pool.news s5, pu.po.ok, by omega, n12, pu.at (k := last) (by omega), .inr upd_same, gws, gw, fun H5 s6 => ?_⟩
  rw [pu.words _ ge last (by omega)]
  have s46 := (s4.trans s5).trans s6
  refine ⟨_, rfl, _, rfl, Du, _, rfl, SqL.of (s46 _ _ hD3), _, _, rfl, rfl, Du, _, _, _, rfl, rfl, SqL.of (s46 _ _ hD3), hat2, rfl, ?_⟩
  rw [decide_eq_true (congrArg V.int (evs_getD n (envOf ws) rs last).symm)]
  exact k H5 (st3.news s46) (f3.trans (.same s46))
end
end My

/-! LM -/
namespace My
open PySem L2
local macro_rules | `(tactic| walk_at "side") => `(tactic| first | with_reducible rfl | assumption | rfl | decide | omega | exact cpow1 (by omega) (by omega) | exact cdiv (by omega) (by omega) | exact two_pos _ | exact SqL.of (by assumption) | exact SqT.of (by assumption) | exact TyX.base (TyOf.int _) | exact TyX.base (TyOf.bl _) | exact TyX.base TyOf.non | exact scal_opt _ _ | exact k_ii | exact k_bi | exact k_ni | exact k_ib | exact k_bb | exact TyX.base (TyOf.lst (by assumption)) | exact k_ll | exact k_lt)
local macro_rules | `(tactic| walk_at "p") => `(tactic| repeat (first | refine And.intro (by walk_at "side") ?_ | apply Exists.intro | refine iteN (by assumption) ?_ | refine iteP (by assumption) ?_ | refine iteN (by decide) ?_ | refine iteP (by decide) ?_))

theorem natL_int (ks : List Nat) : natL ks = (ks.map fun (k : Nat) => ((k : Nat) : Int)).map V.int := by unfold natL; rw [List.map_map]; rfl
section
variable {P : Program} {w : World} {K : PySem.W.Frag} {mg : Str → Option Value} {base : Heap}
def sp_law_made_of (T : Txt K mg) : Sp := fun vs H Q _ => ∃ (p q a l d L R Pl : Addr) (n u : Nat) (rs ps : List Part) (pl : List Nat), vs = [.ref p, .ref a, .ref L] ∧ LS T.C H n rs ps pl p q a l d L R Pl ∧ Ne p q l d L R Pl ∧ Pu n u rs ps pl ∧
  ∀ H', LS T.C H' n rs ps pl p q a l d L R Pl → Fr p H H' → Q (.bl true) H'
theorem sp_law_made_of_len {T : Txt K mg} {vs H Q E} (h : sp_law_made_of T vs H Q E) : vs.length = 3 := by obtain ⟨_, _, _, _, _, _, _, _, _, _, _, _, _, rfl, _⟩ := h; rfl
theorem ok_law_made_of (T : Txt K mg) : FnOk P w K mg base CX0 6 T.f_law_made_of T.fd_law_made_of ["_law_draws_here", "_law_pool", "_law_parts"] (sp_law_made_of T) := by
  have G_p_reached := ok_p_reached (P := P) (w := w) (base := base) T; have G_p_unknowns := ok_p_unknowns (P := P) (w := w) (base := base) T; have G_law_gets := ok_law_gets (P := P) (w := w) (base := base) T; have G_law_reach := ok_law_reach (P := P) (w := w) (base := base) T; have G_law_take := ok_law_take (P := P) (w := w) (base := base) T
  refine T.F_law_made_of.ok sc_law_made_of (fun vs H Q E h => sp_law_made_of_len h) (fun cdv A outer s H vs Q E hr h => ?_)
  obtain ⟨p, q, a, l, d, L, R, Pl, n, u, rs, ps, pl, rfl, st, ne, pu, k⟩ := h
  refine ⟨_, (pss_cons (ps_set (i := 3) sc_law_made_of.nd rfl (Or.inl rfl) (pe_call G_law_take (hr.mono (by decide)) rfl T.g_law_take T.F_law_take.kp T.b_law_take .nil pass0 (pa_cons (pv 0) (pa_cons (pe_callB call_lenL (by rfl) T.n_len (by decide +kernel) (pa_cons (pv 2) pa_nil)) pa_nil))))
       (pss_cons (ps_set (i := 4) sc_law_made_of.nd rfl (Or.inl rfl) (pe_call G_law_take (hr.mono (by decide)) rfl T.g_law_take T.F_law_take.kp T.b_law_take .nil pass0 (pa_cons (pv 0) (pa_cons (pe_callB call_lenL (by rfl) T.n_len (by decide +kernel) (pa_cons (pv 2) pa_nil)) pa_nil))))
       (pss_cons (ps_set (i := 5) sc_law_made_of.nd rfl (Or.inl rfl) (pe_lst (pa_cons (pv 4) (pa_cons (pv 3) pa_nil))))
       (pss_cons (ps_if (pt_cmpR (op_neD hr.units) (pe_meth (pv 1) T.cl T.m_p_reached G_p_reached hr T.b_p_reached .nil passL (pa_cons (pv 3) pa_nil)) (pe_callTy call_tupleL (by rfl) T.n_tuple (by decide +kernel) (pa_cons (pe_call G_law_reach (hr.mono (by decide)) rfl T.g_law_reach T.F_law_reach.kp T.b_law_reach .nil pass0 (pa_cons (pv 2) (pa_cons (pe_lst (pa_cons (pv 3) pa_nil)) pa_nil))) pa_nil)) (nomark _))
        (pss_one (ps_ret pe_bl))
        pss_nil)
       (pss_cons (ps_if (PW.pt (pw_or (pt_cmpR (op_neD hr.units) (pe_meth (pv 1) T.cl T.m_p_unknowns G_p_unknowns hr T.b_p_unknowns .nil passL (pa_cons (pv 5) pa_nil)) (pe_callTy call_tupleL (by rfl) T.n_tuple (by decide +kernel) (pa_cons (pe_call G_law_gets (hr.mono (by decide)) rfl T.g_law_gets T.F_law_gets.kp T.b_law_gets .nil pass0 (pa_cons (pv 2) (pa_cons (pe_lst (pa_cons (pv 3) (pa_cons (pv 4) pa_nil))) pa_nil))) pa_nil)) (nomark _)) (pw_or1 (pt_cmpR (op_neD hr.units) (pv 5) (pe_lst (pa_cons (pv 4) (pa_cons (pv 3) pa_nil))) (nomark _)))))
        (pss_one (ps_ret pe_bl))
        pss_nil)
       (pss_one (ps_ret (pe_and (pe_cmpR (op_eqD hr.units) (pe_meth (pv 1) T.cl T.m_p_unknowns G_p_unknowns hr T.b_p_unknowns .nil passL (pa_cons (pe_tup pa_nil) pa_nil)) (pe_tup pa_nil) (nomark _)) (pe_one (pe_cmpR (op_eqD hr.units) (pe_meth (pv 1) T.cl T.m_p_unknowns G_p_unknowns hr T.b_p_unknowns .nil passL (pa_cons (pe_tup (pa_cons (pv 3) pa_nil)) pa_nil)) (pe_callTy call_tupleL (by rfl) T.n_tuple (by decide +kernel) (pa_cons (pe_call G_law_gets (hr.mono (by decide)) rfl T.g_law_gets T.F_law_gets.kp T.b_law_gets .nil pass0 (pa_cons (pv 2) (pa_cons (pe_lst (pa_cons (pv 3) pa_nil)) pa_nil))) pa_nil)) (nomark _))))))))))), ?_⟩
  have sz : sizeLine = 16777216 := sizeLine_eq
  have one_le : (1 : Nat) ≤ sizeLine := by omega
  have two_le : (2 : Nat) ≤ sizeLine := by omega
  have ple := pu.ple
  have wf := pu.po.ok.wf
  have p1 : 1 ≤ ps.length := by have := pu.at (k := 0) (by have := pu.r1; omega); omega
  obtain ⟨xs, hX, ex, _⟩ := st.parts.item
  refine ⟨_, rfl, _, rfl, L, xs, rfl, SqL.of hX, p, q, _, rfl, st.dr, ne.pq, by omega, fun H1 v v0 v1 d1 f1 => ?_⟩
  obtain ⟨one, rfl⟩ := Int.eq_ofNat_of_zero_le v0
  have h1 : one < ps.length := by omega
  have st1 := st.take ne d1 f1
  have hX1 := f1 _ _ hX ne.Lp
  refine ⟨_, rfl, _, rfl, L, xs, rfl, SqL.of hX1, p, q, _, rfl, st1.dr, ne.pq, by omega, fun H2 v v0 v1 d2 f2 => ?_⟩
  obtain ⟨oth, rfl⟩ := Int.eq_ofNat_of_zero_le v0
  have h2 : oth < ps.length := by omega
  have st2 := st1.take ne d2 f2
  have f12 : Fr p H H2 := Fr.trans f1 f2
  -- numbers
  refine ⟨_, rfl, _, rfl, two_le, fun N hN => ?_⟩
  have s3 := same_new (o := .lst [.int (oth : Nat), .int (one : Nat)]) hN
  have hN3 : upd H2 N (.lst [.int (oth : Nat), .int (one : Nat)]) N = some (.lst (natL [oth, one])) := upd_same
  have st3 := st2.news s3
  have f3 : Fr p H (upd H2 N (.lst [.int (oth : Nat), .int (one : Nat)])) := f12.trans (.same s3)
  generalize upd H2 N (.lst [.int (oth : Nat), .int (one : Nat)]) = H3 at *
  obtain ⟨dx, ho⟩ := id st3.pool.ob
  have g1 : ∀ i ∈ [one], i < ps.length := fun i hi => by simp at hi; omega
  have g2 : ∀ i ∈ [oth, one], i < ps.length := fun i hi => by simp at hi; omega
  have g3 : ∀ i ∈ [one, oth], i < ps.length := fun i hi => by simp at hi; omega
  -- reached
  refine ⟨_, rfl, a, dx, _, rfl, ho, no_meth (by decide +kernel), _, rfl, a, l, d, n, ps, _, rfl, st3.pool, rfl, wf, by omega, fun i ei _ t H4 ks hr s4 ht ht4 => ?_, fun z => absurd (good_of h1) z⟩
  have ei' : one = i := by injection ei with ei; omega
  subst ei'
  have st4 := st3.news s4
  refine ⟨_, rfl, _, rfl, one_le, fun m hm => ?_⟩
  have s5 := same_new (o := .lst [.int (one : Nat)]) hm
  refine ⟨L, m, ps, [one], rfl, st4.parts.news s5, wf, by omega, upd_same, g1, fun H6 ks' t' hr' s6 ht' ht6 => ?_⟩
  obtain rfl := hr.uniq hr'.one
  refine ⟨t', _, rfl, SqL.of ht6, fun t2 ht2 => ?_⟩
  have s7 := same_new (o := .tup (natL ks)) ht2
  have s57 := s5.trans (s6.trans s7)
  refine neIT (ws := ks.map fun (k : Nat) => ((k : Nat) : Int)) (SqT.of (by rw [← natL_int]; exact s57 _ _ ht4)) (SqT.of (by rw [← natL_int]; exact upd_same)) ⟨_, rfl, iteN (by decide) ?_⟩
  have s47 := s4.trans s57
  have st7 := st3.news s47
  have hN7 := s47 _ _ hN3
  have ho7 := s47 _ _ ho
  clear s5 s6 s7 s57 ht6
  generalize upd H6 t2 (.tup (natL ks)) = H7 at *
  -- unknowns
  refine ⟨_, rfl, a, dx, _, rfl, ho7, no_meth (by decide +kernel), _, rfl, a, l, d, n, ps, N, [oth, one], rfl, st7.pool, wf, by omega, .inl hN7, by simp, g2, fun u8 H8 k8 n8 r8 pm8 so8 s8 hu8 hU8 => ?_⟩
  have st8 := st7.news s8
  refine ⟨_, rfl, _, rfl, _, rfl, two_le, fun m8 hm8 => ?_⟩
  have s9 := same_new (o := .lst [.int (one : Nat), .int (oth : Nat)]) hm8
  refine ⟨L, m8, ps, [one, oth], rfl, st8.parts.news s9, wf, by omega, upd_same, g3, fun H10 k10 n10 t10 r10 pm10 so10 s10 ht10 hT10 => ?_⟩
  obtain rfl := r8.uniq (r10.same fun i => by simp [or_comm])
  obtain rfl := sorted_uniq (pm8.trans pm10.symm) so8 so10
  refine ⟨t10, _, rfl, SqL.of hT10, fun t11 ht11 => ?_⟩
  have s11 := same_new (o := .tup (n8.map V.int)) ht11
  have s811 := s9.trans (s10.trans s11)
  refine neIT (SqT.of (s811 _ _ hU8)) (SqT.of upd_same) ⟨_, rfl, iteN (by decide) ?_⟩
  have s12 := s8.trans s811
  have hN12 := s12 _ _ hN7
  refine ⟨_, rfl, _, rfl, _, rfl, two_le, fun m13 hm13 => ?_⟩
  have s13 := same_new (o := .lst [.int (oth : Nat), .int (one : Nat)]) hm13
  refine neIL (ws := [((oth : Nat) : Int), ((one : Nat) : Int)]) (SqL.of (s13 _ _ hN12)) (SqL.of upd_same) ⟨_, rfl, iteN (by decide) ?_⟩
  have s14 := s12.trans s13
  have st14 := st7.news s14
  have ho14 := s14 _ _ ho7
  have f14 : Fr p H3 _ := .same (s47.trans s14)
  generalize upd (upd H10 t11 (.tup (n8.map V.int))) m13 (.lst [.int (oth : Nat), .int (one : Nat)]) = H14 at *
  -- unknowns(()) == ()
  refine ⟨_, rfl, a, dx, _, rfl, ho14, no_meth (by decide +kernel), Nat.zero_le _, fun e1 he1 => ?_⟩
  have s15 := same_new (o := .tup []) he1
  refine ⟨a, l, d, n, ps, e1, [], rfl, st14.pool.news s15, wf, by omega, .inr upd_same, by simp, fun i hi => by simp at hi, fun u16 H16 k16 n16 r16 pm16 so16 s16 hu16 hU16 => ?_⟩
  have ek : k16 = [] := by
    cases k16 with
    | nil => rfl
    | cons x _ => obtain ⟨i, hi, _⟩ := (r16.mem x).mp List.mem_cons_self; simp at hi
  subst ek
  have en : n16 = [] := pm16.eq_nil
  subst en
  refine ⟨Nat.zero_le _, fun e2 he2 => ?_⟩
  have s17 := same_new (o := .tup []) he2
  refine eqIT (ws := []) (SqT.of (s17 _ _ hU16)) (SqT.of upd_same) ⟨_, rfl, iteP rfl ?_⟩
  have s18 := s15.trans (s16.trans s17)
  have st18 := st14.news s18
  have ho18 := s18 _ _ ho14
  refine ⟨_, rfl, a, dx, _, rfl, ho18, no_meth (by decide +kernel), _, rfl, one_le, fun e3 he3 => ?_⟩
  have s19 := same_new (o := .tup [.int (one : Nat)]) he3
  refine ⟨a, l, d, n, ps, e3, [one], rfl, st18.pool.news s19, wf, by omega, .inr upd_same, by simp, g1, fun u20 H20 k20 n20 r20 pm20 so20 s20 hu20 hU20 => ?_⟩
  have st20 := st18.news (s19.trans s20)
  refine ⟨_, rfl, _, rfl, one_le, fun m20 hm20 => ?_⟩
  have s21 := same_new (o := .lst [.int (one : Nat)]) hm20
  refine ⟨L, m20, ps, [one], rfl, st20.parts.news s21, wf, by omega, upd_same, g1, fun H22 k22 n22 t22 r22 pm22 so22 s22 ht22 hT22 => ?_⟩
  obtain rfl := r20.uniq r22
  obtain rfl := sorted_uniq (pm20.trans pm22.symm) so20 so22
  refine ⟨t22, _, rfl, SqL.of hT22, fun t23 ht23 => ?_⟩
  have s23 := same_new (o := .tup (n20.map V.int)) ht23
  have s2123 := s21.trans (s22.trans s23)
  refine eqIT (SqT.of (s2123 _ _ hU20)) (SqT.of upd_same) ?_
  exact k _ (st20.news s2123) (f3.trans (f14.trans (.same (s18.trans ((s19.trans s20).trans s2123)))))
end
end My

/-! LN -/
namespace My
open PySem L2
local macro_rules | `(tactic| walk_at "side") => `(tactic| first | with_reducible rfl | assumption | rfl | decide | omega | exact cpow1 (by omega) (by omega) | exact cdiv (by omega) (by omega) | exact two_pos _ | exact SqL.of (by assumption) | exact SqT.of (by assumption) | exact TyX.base (TyOf.int _) | exact TyX.base (TyOf.bl _) | exact TyX.base TyOf.non | exact scal_opt _ _ | exact k_ii | exact k_bi | exact k_ni | exact k_ib | exact k_bb | exact TyX.base (TyOf.lst (by assumption)) | exact k_ll | exact k_lt)
local macro_rules | `(tactic| walk_at "p") => `(tactic| repeat (first | refine And.intro (by walk_at "side") ?_ | apply Exists.intro | refine iteN (by assumption) ?_ | refine iteP (by assumption) ?_ | refine iteN (by decide) ?_ | refine iteP (by decide) ?_))

/-! ### words moved -/
def mvL (ws du : List Int) (pk : List Nat) : Nat → List Int
  | 0 => ws
  | j + 1 => (mvL ws du pk j).set j (du.getD (pk.getD j 0) 0)
theorem mvL_len (ws du : List Int) (pk : List Nat) : ∀ j, (mvL ws du pk j).length = ws.length
  | 0 => rfl
  | j + 1 => by show ((mvL ws du pk j).set j _).length = _; rw [List.length_set]; exact mvL_len ws du pk j
theorem mvL_at (ws du : List Int) (pk : List Nat) : ∀ j i, i < ws.length → (mvL ws du pk j).getD i 0 = if i < j then du.getD (pk.getD i 0) 0 else ws.getD i 0
  | 0, i, _ => by rw [if_neg (by omega)]; rfl
  | j + 1, i, hi => by
    show ((mvL ws du pk j).set j _).getD i 0 = _
    have ih := mvL_at ws du pk j i hi
    rw [List.getD_eq_getElem?_getD, List.getElem?_set]
    by_cases e : j = i
    · subst e
      rw [if_pos rfl, if_pos (by rw [mvL_len]; exact hi), if_pos (by omega)]; rfl
    · rw [if_neg e, ← List.getD_eq_getElem?_getD, ih]
      by_cases h : i < j
      · rw [if_pos h, if_pos (by omega)]
      · rw [if_neg h, if_neg (by omega)]
theorem mem_getD {ws : List Int} {x : Int} (h : x ∈ ws) : ∃ i, i < ws.length ∧ ws.getD i 0 = x := by
  obtain ⟨i, hi, e⟩ := List.getElem_of_mem h
  exact ⟨i, hi, by rw [List.getD_eq_getElem?_getD, List.getElem?_eq_getElem hi, e]; rfl⟩
theorem fill_words {n u : Nat} {rs ps : List Part} {pl : List Nat} (pu : Pu n u rs ps pl) {ws : List Int} (hwl : ws.length = u) (gws : ∀ x ∈ ws, 0 ≤ x ∧ x < 2 ^ n) {pk : List Nat} (hpk : ∀ i ∈ pk, i < rs.length) {ks : List Nat} {i mm : Nat}
    (hr : ReachL ps (pl.getD i 0) ks) (hi : i < rs.length) (hm : mm = min u pk.length) :
    (∀ x ∈ mvL ws (evs n (envOf ws) rs) pk mm, 0 ≤ x ∧ x < 2 ^ n) ∧
    evAt n (envOf ws) (mFill n ps (pk.map fun k => pl.getD k 0) ks).1 (look (mFill n ps (pk.map fun k => pl.getD k 0) ks).2 (pl.getD i 0)) = (evs n (envOf (mvL ws (evs n (envOf ws) rs) pk mm)) rs).getD i 0 := by
  have ge := env_of gws
  have dg : ∀ k, 0 ≤ (evs n (envOf ws) rs).getD k 0 ∧ (evs n (envOf ws) rs).getD k 0 < 2 ^ n := fun k => evAt_gd pu.n1 ge pu.ro.ok k
  have gm : ∀ x ∈ mvL ws (evs n (envOf ws) rs) pk mm, 0 ≤ x ∧ x < 2 ^ n := fun x hx => by
    obtain ⟨j, hj, e⟩ := mem_getD hx
    rw [mvL_len] at hj
    rw [mvL_at _ _ _ _ _ hj] at e
    subst e
    split
    · exact dg _
    · exact gws _ (by rw [List.getD_eq_getElem?_getD, List.getElem?_eq_getElem hj]; exact List.getElem_mem hj)
  refine ⟨gm, ?_⟩
  have hnw : ∀ j ∈ (pk.map fun k => pl.getD k 0), j < ps.length := fun j hj => by
    obtain ⟨k, hk, rfl⟩ := List.mem_map.mp hj
    exact pu.at (hpk k hk)
  have ci := fill_inv (u := u) pu.n1 pu.po hnw hr (pu.at hi) ks.length
  rw [List.take_length] at ci
  rw [ci.sem _ ge _ ((hr.mem _).mpr .self), evs_getD, ← pu.words _ (env_of gm) i hi]
  refine evAt_congr (fun k g e => ?_) _
  have g0 := (pu.po.ok.get _ _ e).1
  have gu := pu.po.gets _ _ e
  obtain ⟨j, rfl⟩ := Int.eq_ofNat_of_zero_le g0
  have ju : j < ws.length := by omega
  unfold movE
  rw [List.length_map]
  show _ = (mvL ws (evs n (envOf ws) rs) pk mm).getD j 0
  rw [mvL_at _ _ _ _ _ ju]
  by_cases hj : j < pk.length
  · have hjk := hpk _ (List.getElem_mem hj)
    have e1 : (pk.map fun k => pl.getD k 0).getD j 0 = pl.getD (pk.getD j 0) 0 := by
      rw [List.getD_eq_getElem?_getD, List.getElem?_map, List.getElem?_eq_getElem hj, List.getD_eq_getElem?_getD (l := pk), List.getElem?_eq_getElem hj]; rfl
    have e2 : pk.getD j 0 < rs.length := by rw [List.getD_eq_getElem?_getD, List.getElem?_eq_getElem hj]; exact hjk
    rw [if_pos (by omega), if_pos (by omega)]
    show evAt n (envOf ws) ps ((pk.map fun k => pl.getD k 0).getD j 0) = _
    rw [e1, pu.words _ ge _ e2, evs_getD]
  · rw [if_neg (by omega), if_neg (by omega)]; rfl
section
variable {P : Program} {w : World} {K : PySem.W.Frag} {mg : Str → Option Value} {base : Heap}
/-- what put_in refuses -/
def Refused (H : Hp) (ps : List Part) (x v : V) : Prop := plainV x = true ∧ (¬ goodP ps.length x = true ∨ plainV v = true ∨ ∃ xs, RowIs H v xs ∧ ¬ goodR ps.length xs = true)
def sp_law_put_in_told (T : Txt K mg) : Sp := fun vs H Q _ => ∃ (a l d : Addr) (n u : Nat) (ps : List Part) (x v : V), vs = [.ref a, x, v] ∧ PoolAt T.C H a l d n ps ∧ Rows n u false ps ∧ ps.length ≤ 1900 ∧ 1 ≤ n ∧ n ≤ 12 ∧ Refused H ps x v ∧ ∀ H', Same H H' → Q (.int 1) H'
theorem sp_law_put_in_told_len {T : Txt K mg} {vs H Q E} (h : sp_law_put_in_told T vs H Q E) : vs.length = 3 := by obtain ⟨_, _, _, _, _, _, _, _, rfl, _⟩ := h; rfl
theorem ok_law_put_in_told (T : Txt K mg) : FnOk P w K mg base CX0 7 T.f_law_put_in_told T.fd_law_put_in_told ["_law_pool", "_law_part_here", "_law_new"] (sp_law_put_in_told T) := by
  have G_put_in := ok_put_in (P := P) (w := w) (base := base) T
  refine T.F_law_put_in_told.ok sc_law_put_in_told (fun vs H Q E h => sp_law_put_in_told_len h) (fun cdv A outer s H vs Q E hr h => ?_)
  obtain ⟨a, l, d, n, u, ps, x, v, rfl, hp, ro, h19, n1, n12, ⟨hx, hrf⟩, k⟩ := h
  refine ⟨_, (pss_cons (ps_set (i := 3) sc_law_put_in_told.nd rfl (Or.inl rfl) pe_int)
       (pss_cons (ps_try_only (Wout := fun _ _ _ _ => False) rfl rfl ⟨rfl, by decide, Or.inl T.g_BadPart⟩ takes0
       (fun W pn xe tk _ => (pss_one (ps_expr (pe_callS G_put_in hr rfl T.g_put_in T.F_put_in.kp T.b_put_in (fun σ => passAt tk σ) (pa_cons (pv 0) (pa_cons (pv 1) (pa_cons (pv 2) pa_nil)))))))
       (fun a oe cls d pn _ _ => (pss_one (ps_set (i := 3) sc_law_put_in_told.nd rfl (Or.inl rfl) pe_int))))
       (pss_one (ps_ret (pv 3))))), ?_⟩
  refine ⟨_, rfl, _, rfl, _, rfl, a, l, d, n, u, ps, x, v, rfl, hp, ro, h19, n1, n12, hx, fun _ => ⟨true, T.te_BadPart, fun _ _ _ => ⟨_, rfl, k H (Same.refl _)⟩, fun z => by cases z⟩, fun i ei hi => ?_⟩
  subst ei
  rcases hrf with h | h | ⟨xs, hr, hg⟩
  · exact absurd (good_of hi) h
  · exact .inl ⟨h, fun H' s => ⟨true, T.te_BadPart, fun _ _ _ => ⟨_, rfl, k H' s⟩, fun z => by cases z⟩⟩
  · exact .inr ⟨xs, hr, fun _ H' s => ⟨true, T.te_BadPart, fun _ _ _ => ⟨_, rfl, k H' s⟩, fun z => by cases z⟩, fun pl e hpl => by subst e; exact absurd (goodR_of hpl) hg⟩
end
end My

/-! LO -/
namespace My
open PySem L2
local macro_rules | `(tactic| walk_at "side") => `(tactic| first | with_reducible rfl | assumption | rfl | decide | omega | exact cpow1 (by omega) (by omega) | exact cdiv (by omega) (by omega) | exact two_pos _ | exact SqL.of (by assumption) | exact SqT.of (by assumption) | exact TyX.base (TyOf.int _) | exact TyX.base (TyOf.bl _) | exact TyX.base TyOf.non | exact scal_opt _ _ | exact k_ii | exact k_bi | exact k_ni | exact k_ib | exact k_bb | exact TyX.base (TyOf.lst (by assumption)) | exact k_ll | exact k_lt)
local macro_rules | `(tactic| walk_at "p") => `(tactic| repeat (first | refine And.intro (by walk_at "side") ?_ | apply Exists.intro | refine iteN (by assumption) ?_ | refine iteP (by assumption) ?_ | refine iteN (by decide) ?_ | refine iteP (by decide) ?_))

section
variable {P : Program} {w : World} {K : PySem.W.Frag} {mg : Str → Option Value} {base : Heap}
theorem gNe {i : Nat} {v v' : V} {σ : L2.St} {H : Hp} {Q : L2.St → Hp → Prop} (e : v = v') (h : gName i v' σ H Q) : gName i v σ H Q := e ▸ h
theorem LAt.updK {H : Hp} {l D : Addr} {ps : List Part} {kvs kvs' : List (Key × V)} (h : LAt H l ps) (hD : H D = some (.dK kvs)) : LAt (upd H D (.dK kvs')) l ps := by
  obtain ⟨ts, hl, _⟩ := id h
  exact h.keep (S := fun b => b = D) (fun b o e hb => by rw [upd_ne hb]; exact e) (ne_of hl hD (by intro z; cases z)) fun t xs e => ne_of e hD (by intro z; cases z)
def sp_law_filled (T : Txt K mg) : Sp := fun vs H Q _ => ∃ (p q a l d L R Pl : Addr) (n u : Nat) (rs ps : List Part) (pl : List Nat), vs = [.ref p, .ref a, .ref L, .ref R, .ref Pl, .int u, .int n] ∧ LS T.C H n rs ps pl p q a l d L R Pl ∧ Ne p q l d L R Pl ∧ Pu n u rs ps pl ∧
  ∀ H' ps', LS T.C H' n rs ps' pl p q a l d L R Pl → ps'.length ≤ 400 → Q (.bl true) H'
theorem sp_law_filled_len {T : Txt K mg} {vs H Q E} (h : sp_law_filled T vs H Q E) : vs.length = 7 := by obtain ⟨_, _, _, _, _, _, _, _, _, _, _, _, _, rfl, _⟩ := h; rfl
theorem ok_law_filled (T : Txt K mg) : FnOk P w K mg base CX0 8 T.f_law_filled T.fd_law_filled ["_law_draws_here", "_law_pool", "_law_parts", "_law_rows", "_law_places", "_law_unknowns", "_law_width"] (sp_law_filled T) := by
  have G_p_iter := ok_p_iter (P := P) (w := w) (base := base) T; have G_p_len := ok_p_len (P := P) (w := w) (base := base) T; have G_p_value := ok_p_value (P := P) (w := w) (base := base) T; have G_law_apply := ok_law_apply (P := P) (w := w) (base := base) T; have G_law_put_in_told := ok_law_put_in_told (P := P) (w := w) (base := base) T; have G_law_reach := ok_law_reach (P := P) (w := w) (base := base) T; have G_law_row_words := ok_law_row_words (P := P) (w := w) (base := base) T; have G_law_take := ok_law_take (P := P) (w := w) (base := base) T; have G_law_word := ok_law_word (P := P) (w := w) (base := base) T; have G_put_in := ok_put_in (P := P) (w := w) (base := base) T
  refine T.F_law_filled.ok sc_law_filled (fun vs H Q E h => sp_law_filled_len h) (fun cdv A outer s H vs Q E hr h => ?_)
  obtain ⟨p, q, a, l, d, L, R, Pl, n, u, rs, ps, pl, rfl, st, ne, pu, k⟩ := h
  refine ⟨_, (pss_cons (ps_setLc (i := 7) (own := [("_law_i", 19)]) (g := gName 19) (tt := tYes) rfl sc_law_filled.nd rfl rfl (sw_true rfl rfl rfl (by decide +kernel)) (pi_range1 (by rfl) T.n_range (pa_cons (pv 5) pa_nil)) (blkOk_by (N := ["_law_draws_here", "_law_pool", "_law_parts", "_law_rows", "_law_places", "_law_unknowns", "_law_width", "_law_words", "_law_picked", "_law_turn", "_law_new", "_law_kept", "_law_at", "_law_turned", "_law_number", "_law_part_here", "_law_told", "_law_due", "_law_moved", "_law_i", "_law_bad"]) (sc := defScope s_law_filled) (by decide +kernel)) (fun _ _ _ _ _ => by exact pg_name (i := 19) sc_law_filled.nd rfl (Or.inl rfl)) (fun _ _ _ _ _ => by exact pts_nil) (fun _ _ _ _ _ => by exact (pe_call G_law_word (hr.mono (by decide)) rfl T.g_law_word T.F_law_word.kp T.b_law_word .nil pass0 (pa_cons (pv 0) (pa_cons (pv 6) pa_nil)))))
       (pss_cons (ps_set (i := 8) sc_law_filled.nd rfl (Or.inl rfl) (pe_lst pa_nil))
       (pss_cons (ps_for PassesOwn.never rfl (pi_range1 (by rfl) T.n_range (pa_cons (pe_call G_law_take (hr.mono (by decide)) rfl T.g_law_take T.F_law_take.kp T.b_law_take .nil pass0 (pa_cons (pv 0) (pa_cons pe_int pa_nil))) pa_nil)) (pg_name (i := 9) sc_law_filled.nd rfl (Or.inl rfl))
        (pss_one (ps_expr (pe_bm PySem.F.plainAttrs_list PySem.F.slot_list_append PySem.F.type_list_append mt_append (pv 8) (pa_cons (pe_call G_law_take (hr.mono (by decide)) rfl T.g_law_take T.F_law_take.kp T.b_law_take .nil pass0 (pa_cons (pv 0) (pa_cons (pe_callB call_lenL (by rfl) T.n_len (by decide +kernel) (pa_cons (pv 3) pa_nil)) pa_nil))) pa_nil)))))
       (pss_cons (ps_setLc (i := 10) (te := tOp (rIxL K) (tVar 4) (tVar 12)) (own := [("_law_at", 12)]) (g := gName 12) (tt := tYes) rfl sc_law_filled.nd rfl rfl (sw_true rfl rfl rfl (by decide +kernel)) (pi_list (pv 8)) (blkOk_by (N := ["_law_draws_here", "_law_pool", "_law_parts", "_law_rows", "_law_places", "_law_unknowns", "_law_width", "_law_words", "_law_picked", "_law_turn", "_law_new", "_law_kept", "_law_at", "_law_turned", "_law_number", "_law_part_here", "_law_told", "_law_due", "_law_moved", "_law_i", "_law_bad"]) (sc := defScope s_law_filled) (by decide +kernel)) (fun _ _ _ _ _ => by exact pg_name (i := 12) sc_law_filled.nd rfl (Or.inl rfl)) (fun _ _ _ _ _ => by exact pts_nil) (fun _ _ _ _ _ => by exact (pe_ix ix_list (pv 4) (pv 12) (fun _ _ => rfl))))
       (pss_cons (ps_set (i := 11) sc_law_filled.nd rfl (Or.inl rfl) (pe_callTy call_listL (by rfl) T.n_list (by decide +kernel) (pa_cons (pv 10) pa_nil)))
       (pss_cons (ps_set (i := 12) sc_law_filled.nd rfl (Or.inl rfl) (pe_op op_sub (pe_op op_sub (pe_callB call_lenL (by rfl) T.n_len (by decide +kernel) (pa_cons (pv 3) pa_nil)) pe_int) (pe_call G_law_take (hr.mono (by decide)) rfl T.g_law_take T.F_law_take.kp T.b_law_take .nil pass0 (pa_cons (pv 0) (pa_cons pe_int pa_nil)))))
       (pss_cons (ps_set (i := 13) sc_law_filled.nd rfl (Or.inl rfl) pe_dnewK)
       (pss_cons (ps_for PassesOwn.never rfl (pi_list (pe_call G_law_reach (hr.mono (by decide)) rfl T.g_law_reach T.F_law_reach.kp T.b_law_reach .nil pass0 (pa_cons (pe_callTy call_listL (by rfl) T.n_list (by decide +kernel) (pa_cons (pv 2) pa_nil)) (pa_cons (pe_lst (pa_cons (pe_ix ix_list (pv 4) (pv 12) (fun _ _ => rfl)) pa_nil)) pa_nil)))) (pg_name (i := 14) sc_law_filled.nd rfl (Or.inl rfl))
        (pss_cons (ps_set (i := 15) sc_law_filled.nd rfl (Or.inl rfl) (pe_ix ix_list (pv 2) (pv 14) (fun _ _ => rfl)))
       (pss_one (ps_if (PW.pt (pw_and (pt_cmpR op_eq (pe_ix ix_tup (pv 15) pe_int (fun _ _ => rfl)) pe_str (nomark _)) (pw_and1 (pt_cmpR op_lt (pe_ix ix_tup (pv 15) pe_int (fun _ _ => rfl)) (pe_callB call_lenL (by rfl) T.n_len (by decide +kernel) (pa_cons (pv 10) pa_nil)) (nomark _)))))
        (pss_one (ps_dput (hu_of hr) (pv 13) (pv 14) (pe_ix ix_list (pv 10) (pe_ix ix_tup (pv 15) pe_int (fun _ _ => rfl)) (fun _ _ => rfl)) rfl))
        (pss_one (ps_if (pt_cmpR op_eq (pe_callB call_lenT (by rfl) T.n_len (by decide +kernel) (pa_cons (pv 15) pa_nil)) pe_int (nomark _))
        (pss_one (ps_dput (hu_of hr) (pv 13) (pv 14) (pv 14) rfl))
        (pss_one (ps_dput (hu_of hr) (pv 13) (pv 14) (pe_call G_law_apply (hr.mono (by decide)) rfl T.g_law_apply T.F_law_apply.kp T.b_law_apply .nil pass0 (pa_cons (pv 2) (pa_cons (pv 6) (pa_cons (pe_ix ix_tup (pv 15) pe_int (fun _ _ => rfl)) (pa_cons (pe_dget (hu_of hr) (pv 13) (pe_ix ix_tup (pv 15) pe_int (fun _ _ => rfl)) (fun _ _ => rfl)) (pa_cons (pe_dget (hu_of hr) (pv 13) (pe_ix ix_tup (pv 15) pe_int (fun _ _ => rfl)) (fun _ _ => rfl)) pa_nil)))))) rfl))))))))
       (pss_cons (ps_set (i := 16) sc_law_filled.nd rfl (Or.inl rfl) (pe_call G_put_in (hr.mono (by decide)) rfl T.g_put_in T.F_put_in.kp T.b_put_in .nil passL (pa_cons (pv 1) (pa_cons (pe_ix ix_list (pv 4) (pv 12) (fun _ _ => rfl)) (pa_cons (pv 10) pa_nil)))))
       (pss_cons (ps_if (PW.pt (pw_or (pt_cmpR op_ne (pv 16) (pe_dget (hu_of hr) (pv 13) (pe_ix ix_list (pv 4) (pv 12) (fun _ _ => rfl)) (fun _ _ => rfl)) (nomark _)) (pw_or (pt_cmpR (op_neD hr.units) (pe_callTy (call_listOwn2 T.m_p_iter.1 T.m_p_iter.2 T.m_p_len.1 (beq_iff_eq.mp T.m_p_len.2) G_p_iter T.b_p_iter G_p_len T.b_p_len rfl (hr.mono (by decide))) (by rfl) T.n_list (by decide +kernel) (pa_cons (pv 1) pa_nil)) (pv 2) (nomark _)) (pw_or1 (pt_cmpR (op_neD hr.units) (pv 10) (pv 11) (nomark _))))))
        (pss_one (ps_ret pe_bl))
        pss_nil)
       (pss_cons (ps_set (i := 17) sc_law_filled.nd rfl (Or.inl rfl) (pe_call G_law_row_words (hr.mono (by decide)) rfl T.g_law_row_words T.F_law_row_words.kp T.b_law_row_words .nil pass0 (pa_cons (pv 3) (pa_cons (pv 7) (pa_cons (pv 6) pa_nil)))))
       (pss_cons (ps_set (i := 18) sc_law_filled.nd rfl (Or.inl rfl) (pe_callTy call_listL (by rfl) T.n_list (by decide +kernel) (pa_cons (pv 7) pa_nil)))
       (pss_cons (ps_for PassesOwn.never rfl (pi_range1 (by rfl) T.n_range (pa_cons (pe_callB (call_min2 rfl) (by rfl) T.n_min (by decide +kernel) (pa_cons (pe_callB call_lenL (by rfl) T.n_len (by decide +kernel) (pa_cons (pv 18) pa_nil)) (pa_cons (pe_callB call_lenL (by rfl) T.n_len (by decide +kernel) (pa_cons (pv 8) pa_nil)) pa_nil))) pa_nil)) (pg_name (i := 19) sc_law_filled.nd rfl (Or.inl rfl))
        (pss_one (ps_asg (pe_ix ix_list (pv 17) (pe_ix ix_list (pv 8) (pv 19) (fun _ _ => rfl)) (fun _ _ => rfl)) (pg_sub (pv 18) (pv 19) set_list))))
       (pss_cons (ps_if (pt_cmpR op_ne (pe_meth (pv 1) T.cl T.m_p_value G_p_value (hr.mono (by decide)) T.b_p_value .nil passL (pa_cons (pv 16) (pa_cons (pv 7) pa_nil))) (pe_ix ix_list (pe_call G_law_row_words (hr.mono (by decide)) rfl T.g_law_row_words T.F_law_row_words.kp T.b_law_row_words .nil pass0 (pa_cons (pv 3) (pa_cons (pv 18) (pa_cons (pv 6) pa_nil)))) (pv 12) (fun _ _ => rfl)) (nomark _))
        (pss_one (ps_ret pe_bl))
        pss_nil)
       (pss_cons (ps_set (i := 20) sc_law_filled.nd rfl (Or.inl rfl) (pe_ix ix_list (pe_lst (pa_cons (pe_un un_neg pe_int) (pa_cons (pe_callB call_lenL (by rfl) T.n_len (by decide +kernel) (pa_cons (pv 2) pa_nil)) (pa_cons pe_non pa_nil)))) (pe_call G_law_take (hr.mono (by decide)) rfl T.g_law_take T.F_law_take.kp T.b_law_take .nil pass0 (pa_cons (pv 0) (pa_cons pe_int pa_nil))) (fun _ _ => rfl)))
       (pss_cons (ps_if (PW.pt (pw_or (pt_cmpR op_ne (pe_call G_law_put_in_told hr rfl T.g_law_put_in_told T.F_law_put_in_told.kp T.b_law_put_in_told .nil pass0 (pa_cons (pv 1) (pa_cons (pv 20) (pa_cons (pv 10) pa_nil)))) pe_int (nomark _)) (pw_or1 (pt_cmpR op_ne (pe_call G_law_put_in_told hr rfl T.g_law_put_in_told T.F_law_put_in_told.kp T.b_law_put_in_told .nil pass0 (pa_cons (pv 1) (pa_cons pe_int (pa_cons (pe_op op_cat (pv 10) (pe_lst (pa_cons (pv 20) pa_nil))) pa_nil)))) pe_int (nomark _)))))
        (pss_one (ps_ret pe_bl))
        pss_nil)
       (pss_one (ps_ret (pe_and (pe_cmpR op_eq (pe_call G_law_put_in_told hr rfl T.g_law_put_in_told T.F_law_put_in_told.kp T.b_law_put_in_told .nil pass0 (pa_cons (pv 1) (pa_cons pe_int (pa_cons pe_non pa_nil)))) pe_int (nomark _)) (pe_one (pe_cmpR (op_eqD hr.units) (pe_callTy (call_listOwn2 T.m_p_iter.1 T.m_p_iter.2 T.m_p_len.1 (beq_iff_eq.mp T.m_p_len.2) G_p_iter T.b_p_iter G_p_len T.b_p_len rfl (hr.mono (by decide))) (by rfl) T.n_list (by decide +kernel) (pa_cons (pv 1) pa_nil)) (pv 2) (nomark _)))))))))))))))))))))), ?_⟩
  have sz : sizeLine = 16777216 := sizeLine_eq
  have one_le : (1 : Nat) ≤ sizeLine := by omega
  have u3 := pu.u3
  have n12 := pu.n12
  have n1 := pu.n1
  have r1 := pu.r1
  have r60 := pu.r60
  have ple := pu.ple
  have plen := pu.plen
  have p1 : 1 ≤ ps.length := by have := pu.at (k := 0) (by omega); omega
  have Lq := ne.Lq
  have lq := ne.lq
  -- words
  refine ⟨_, rfl, u, rfl, by omega, by omega, fun W hW => ?_⟩
  have oW := st.off hW
  refine lc_range (lo := 0) (n := ((u : Nat) : Int).toNat) (fun j H1 => LS T.C H1 n rs ps pl p q a l d L R Pl ∧ Fr p H H1 ∧ ∃ ws : List Int, H1 W = some (.lst (intL ws)) ∧ ws.length = j ∧ ∀ x ∈ ws, 0 ≤ x ∧ x < 2 ^ n) ⟨st.news (same_new hW), .same (same_new hW), [], upd_same, rfl, by simp⟩ ?_ ?_
  · rintro j H1 hj ⟨st1, f1, ws, hw1, hwl, gws⟩
    rw [Int.toNat_natCast] at hj
    refine ⟨rfl, yesT (iteP rfl ?_)⟩
    refine ⟨_, rfl, _, rfl, p, q, n, rfl, st1.dr, ne.pq, n12, fun H2 v v0 v1 d2 f2 => ?_⟩
    have st2 := st1.take ne d2 f2
    have hw2 := f2 _ _ hw1 oW.o1
    refine ⟨_, hw2, by rw [intL_len]; omega, st2.upd oW hw2, fun b o e hb => ?_, ws ++ [v], by rw [upd_same, intL_snoc], by simp [hwl], fun x hx => ?_⟩
    · rw [upd_ne (ne_of_none e hW)]; exact f2 _ _ (f1 _ _ e hb) hb
    · rcases List.mem_append.mp hx with hx | hx
      · exact gws x hx
      · simp at hx; subst hx; exact ⟨v0, v1⟩
  rintro H1 ⟨st1, f1, ws, hw1, hwl, gws⟩
  rw [Int.toNat_natCast] at hwl
  -- picked
  refine ⟨Nat.zero_le _, fun Pk hPk => ?_⟩
  have oP := st1.off hPk
  have s2 := same_new (o := .lst []) hPk
  have st2 := st1.news s2
  have hw2 := s2 _ _ hw1
  have WP : W ≠ Pk := ne_of_none hw1 hPk
  have hp2 : upd H1 Pk (.lst []) Pk = some (.lst (natL [])) := upd_same
  generalize upd H1 Pk (.lst []) = H2 at *
  refine ⟨_, rfl, p, q, _, rfl, st2.dr, ne.pq, by decide, fun H3 v v0 v1 d3 f3 => ?_⟩
  obtain ⟨np, rfl⟩ := Int.eq_ofNat_of_zero_le v0
  have st3 := st2.take ne d3 f3
  have hw3 := f3 _ _ hw2 oW.o1
  have hp3 := f3 _ _ hp2 oP.o1
  refine ⟨np, rfl, by omega, by omega, ?_⟩
  refine for_range (lo := 0) (n := ((np : Nat) : Int).toNat) (fun j σ' H4 => ∃ (v9 : Option V) (pk : List Nat), σ' = [some (.ref p), some (.ref a), some (.ref L), some (.ref R), some (.ref Pl), some (.int (u : Nat)), some (.int (n : Nat)), some (.ref W), some (.ref Pk), v9, none, none, none, none, none, none, none, none, none, none, none] ∧
    LS T.C H4 n rs ps pl p q a l d L R Pl ∧ H4 W = some (.lst (intL ws)) ∧ H4 Pk = some (.lst (natL pk)) ∧ pk.length = j ∧ ∀ i ∈ pk, i < rs.length) ⟨none, [], rfl, st3, hw3, hp3, rfl, by simp⟩ ?_ ?_
  · rintro j σ' H4 hj ⟨v9, pk, rfl, st4, hw4, hp4, hpl, gpk⟩
    rw [Int.toNat_natCast] at hj
    obtain ⟨xsR, hXR, exR, _⟩ := st4.rows.item
    refine ⟨_, rfl, .inl ⟨rfl, _, SqL.of hp4⟩, _, rfl, _, rfl, R, _, rfl, SqL.of hXR, p, q, _, rfl, st4.dr, ne.pq, by omega, fun H5 v v0 v1 d5 f5 => ?_⟩
    obtain ⟨i, rfl⟩ := Int.eq_ofNat_of_zero_le v0
    have st5 := st4.take ne d5 f5
    have hp5 := f5 _ _ hp4 oP.o1
    refine ⟨Pk, _, _, rfl, rfl, hp5, by rw [natL_len]; omega, _, pk ++ [i], rfl, st5.upd oP hp5, ?_, by rw [upd_same, natL_snoc], by simp [hpl], fun x hx => ?_⟩
    · rw [upd_ne WP]; exact f5 _ _ hw4 oW.o1
    · rcases List.mem_append.mp hx with hx | hx
      · exact gpk x hx
      · simp at hx; subst hx; omega
  rintro σ' H4 ⟨v9, pk, rfl, st4, hw4, hp4, hpl, gpk⟩
  rw [Int.toNat_natCast] at hpl
  -- new
  refine ⟨_, rfl, Pk, rfl, ⟨_, SqL.of hp4⟩, fun Nw hNw => ?_⟩
  have hnl : ∀ j, ((pk.take j).map fun k => pl.getD k 0).length ≤ j := fun j => by rw [List.length_map, List.length_take]; omega
  refine lc_list (K := K) (a := Pk) (xs := natL pk) (fun j H5 => Same H4 H5 ∧ H5 Nw = some (.lst (natL ((pk.take j).map fun k => pl.getD k 0)))) ⟨same_new hNw, upd_same⟩ (fun j H5 _ ⟨s5, _⟩ => SqL.of (s5 _ _ hp4)) ?_ ?_
  · rintro j x H5 hj ⟨s5, hn5⟩
    obtain ⟨i, hi, rfl⟩ := natL_get hj
    have hir := gpk i (List.mem_of_getElem? hi)
    refine ⟨rfl, yesT (iteP rfl ?_)⟩
    refine ⟨_, rfl, _, rfl, Pl, _, _, _, rfl, rfl, SqL.of (s5 _ _ st4.places), natL_at (by omega), ?_⟩
    refine ⟨_, hn5, by rw [natL_len]; have := hnl j; have := (List.getElem?_eq_some_iff.mp hi).1; omega, fun b o e => ?_, ?_⟩
    · rw [upd_ne (ne_of_none e hNw)]; exact s5 _ _ e
    · rw [upd_same, ← natL_snoc, take_snoc hi, List.map_append]; rfl
  rintro H5 ⟨s5, hn5⟩
  rw [natL_len, List.take_length] at hn5
  have hnw : ∀ j ∈ (pk.map fun k => pl.getD k 0), j < ps.length := fun j hj => by
    obtain ⟨k, hk, rfl⟩ := List.mem_map.mp hj
    exact pu.at (gpk k hk)
  have nwl : (pk.map fun k => pl.getD k 0).length = pk.length := by rw [List.length_map]
  have fw := fun {ks i mm} hr hi hm => fill_words pu hwl gws gpk (ks := ks) (i := i) (mm := mm) hr hi hm
  generalize (pk.map fun k => pl.getD k 0) = nw at *
  have st5 := st4.news s5
  have hw5 := s5 _ _ hw4
  have hp5 := s5 _ _ hp4
  have oN := st4.off hNw
  have WN : W ≠ Nw := ne_of_none hw4 hNw
  have PN : Pk ≠ Nw := ne_of_none hp4 hNw
  -- kept = list(new)
  refine ⟨_, rfl, Nw, _, rfl, SqL.of hn5, fun Kp hKp => ?_⟩
  have s6 := same_new (o := .lst (natL nw)) hKp
  have oK := st5.off hKp
  have st6 := st5.news s6
  have hw6 := s6 _ _ hw5
  have hp6 := s6 _ _ hp5
  have hn6 := s6 _ _ hn5
  have hk6 : upd H5 Kp (.lst (natL nw)) Kp = some (.lst (natL nw)) := upd_same
  generalize upd H5 Kp (.lst (natL nw)) = H6 at *
  -- at
  obtain ⟨xsR, hXR, exR, _⟩ := st6.rows.item
  refine ⟨_, rfl, R, _, rfl, SqL.of hXR, _, _, rfl, rfl, _, rfl, p, q, _, rfl, st6.dr, ne.pq, by decide, fun H7 v v0 v1 d7 f7 => ?_⟩
  have st7 := st6.take ne d7 f7
  have hw7 := f7 _ _ hw6 oW.o1
  have hp7 := f7 _ _ hp6 oP.o1
  have hn7 := f7 _ _ hn6 oN.o1
  have hk7 := f7 _ _ hk6 oK.o1
  obtain ⟨at_, eat⟩ : ∃ at_ : Nat, ((xsR.length : Nat) : Int) - 1 - v = (at_ : Nat) := ⟨xsR.length - 1 - v.toNat, by omega⟩
  have hat : at_ < rs.length := by omega
  refine ⟨_, _, rfl, rfl, ?_⟩
  refine gNe (v' := V.int (at_ : Nat)) (congrArg V.int eat) ?_
  have hi := pu.at hat
  -- turned = {}
  intro D hD
  have oD := st7.off hD
  have s8 := same_new (o := .dK []) hD
  have st8 := st7.news s8
  have hD8 : upd H7 D (.dK []) D = some (.dK []) := upd_same
  have hw8 := s8 _ _ hw7
  have hp8 := s8 _ _ hp7
  have hn8 := s8 _ _ hn7
  have hk8 := s8 _ _ hk7
  have WD : W ≠ D := ne_of_none hw7 hD
  have PD : Pk ≠ D := ne_of_none hp7 hD
  have ND : Nw ≠ D := ne_of_none hn7 hD
  have KD : Kp ≠ D := ne_of_none hk7 hD
  generalize upd H7 D (.dK []) = H8 at *
  -- reach(list(parts), [places[at]])
  obtain ⟨xsL, hXL, exL, hitL⟩ := st8.parts.item
  refine ⟨_, rfl, L, _, rfl, SqL.of hXL, fun cp hcp => ?_⟩
  have s9 := same_new (o := .lst xsL) hcp
  have hcp9 : LAt (upd H8 cp (.lst xsL)) cp ps := by
    obtain ⟨ts, e1, e2, e3⟩ := st8.parts
    rw [hXL] at e1
    cases e1
    refine ⟨ts, upd_same, e2, fun i p e => ?_⟩
    obtain ⟨t, h1, h2⟩ := e3 i p e
    exact ⟨t, h1, s9 _ _ h2⟩
  have st9 := st8.news s9
  refine ⟨_, rfl, _, rfl, Pl, _, _, _, rfl, rfl, SqL.of st9.places, natL_at (by omega), one_le, fun m hm => ?_⟩
  have s10 := same_new (o := .lst [.int (pl.getD at_ 0 : Nat)]) hm
  refine ⟨cp, m, ps, [pl.getD at_ 0], rfl, hcp9.news s10, pu.po.ok.wf, by omega, upd_same, fun i hi' => by rw [List.mem_singleton] at hi'; rw [hi']; exact hi, fun H11 ks t hrS s11 ht ht11 => ?_⟩
  have hr := hrS.one
  have s911 := s9.trans (s10.trans s11)
  have st11 := st8.news s911
  have hD11 := s911 _ _ hD8
  have hw11 := s911 _ _ hw8
  have hp11 := s911 _ _ hp8
  have hn11 := s911 _ _ hn8
  have hk11 := s911 _ _ hk8
  have hXL11 := s911 _ _ hXL
  have hit11 : ∀ (i : Nat) (r : Part), ps[i]? = some r → ∃ t, xsL[i]? = some (V.ref t) ∧ H11 t = some (.tup r.vals) := fun i r e => by
    obtain ⟨t, h1, h2⟩ := hitL i r e
    exact ⟨t, h1, s911 _ _ h2⟩
  have tL : t ≠ L := fun e => by
    have := (s9.trans s10) _ _ hXL
    rw [← e, ht] at this; cases this
  have tD : t ≠ D := fun e => by
    have := (s9.trans s10) _ _ hD8
    rw [← e, ht] at this; cases this
  clear s9 s10 s11 s911 ht hcp9 hcp hm hitL
  have ksl : ks.length ≤ ps.length := reach_len pu.po.ok.wf hr hi
  refine ⟨t, rfl, ⟨_, SqL.of ht11⟩, ?_⟩
  refine for_list (K := K) (a := t) (xs := natL ks) (fun j σ' H3 => ∃ v14 v15 : Option V, σ' = [some (.ref p), some (.ref a), some (.ref L), some (.ref R), some (.ref Pl), some (.int (u : Nat)), some (.int (n : Nat)), some (.ref W), some (.ref Pk), v9, some (.ref Nw), some (.ref Kp), some (.int (at_ : Nat)), some (.ref D), v14, v15, none, none, none, none, none] ∧
    LAt H3 L (mFill n ps nw (ks.take j)).1 ∧ H3 D = some (.dK (dm (mFill n ps nw (ks.take j)).2)) ∧ (∀ b o, H11 b = some o → b ≠ L → b ≠ D → H3 b = some o)) ?_ ?_ ?_ ?_
  · exact ⟨none, none, rfl, st11.parts, hD11, fun b o e _ _ => e⟩
  · rintro j σ' H3 _ ⟨_, _, _, _, _, f⟩
    exact SqL.of (f _ _ ht11 tL tD)
  · rintro j y σ' H3 hj ⟨v14, v15, rfl, hP, hDm, f⟩
    obtain ⟨k', hkj, rfl⟩ := natL_get hj
    have ci := fill_inv (u := u) n1 pu.po hnw hr hi j
    have hkr := (hr.mem k').mp (List.mem_of_getElem? hkj)
    have hkn : k' < ps.length := by have := hkr.le pu.po.ok.wf; omega
    obtain ⟨r, hpk⟩ : ∃ r, ps[k']? = some r := ⟨_, List.getElem?_eq_getElem hkn⟩
    have et : ks.take (j + 1) = ks.take j ++ [k'] := take_snoc hkj
    have em : mFill n ps nw (ks.take (j + 1)) = fstep n ps nw (mFill n ps nw (ks.take j)) k' := by rw [et, mFill_snoc]
    have hab := hab_take pu.po.ok.wf hr hkj hpk
    have hnk : k' ∉ (mFill n ps nw (ks.take j)).2.map (fun (x : Nat × Nat) => x.1) := by rw [ci.keys]; exact not_in_take hr.asc hkj
    have hlen : (mFill n ps nw (ks.take j)).1.length < 999 := by have := ci.len; rw [List.length_take] at this; omega
    have pk' := pre_at ci.pre hpk
    obtain ⟨xs3, hX3, ex3, hit3⟩ := hP.item
    obtain ⟨g, hg, hG⟩ := hit3 k' r pk'
    have hN3 := f _ _ hn11 oN.o4 ND
    have LD : L ≠ D := ne_of hX3 hDm (by intro z; cases z)
    refine ⟨_, rfl, _, rfl, L, xs3, _, _, rfl, rfl, SqL.of hX3, at_of rfl hg, ?_⟩
    have hz : (dm (mFill n ps nw (ks.take j)).2).length < sizeLine := by
      have : (mFill n ps nw (ks.take j)).2.length = (ks.take j).length := by have := congrArg List.length ci.keys; rw [List.length_map] at this; exact this
      rw [dm_len, this, List.length_take]; omega
    have fin : ∀ (H4 : Hp) (v14 v15 : Option V), LAt H4 L (fstepR n ps nw (mFill n ps nw (ks.take j)) k').2 → (∀ b o, H3 b = some o → b ≠ L → H4 b = some o) →
        ∃ v14' v15' : Option V, [some (V.ref p), some (.ref a), some (.ref L), some (.ref R), some (.ref Pl), some (.int (u : Nat)), some (.int (n : Nat)), some (.ref W), some (.ref Pk), v9, some (.ref Nw), some (.ref Kp), some (.int (at_ : Nat)), some (.ref D), v14, v15, none, none, none, none, none] = [some (.ref p), some (.ref a), some (.ref L), some (.ref R), some (.ref Pl), some (.int (u : Nat)), some (.int (n : Nat)), some (.ref W), some (.ref Pk), v9, some (.ref Nw), some (.ref Kp), some (.int (at_ : Nat)), some (.ref D), v14', v15', none, none, none, none, none] ∧
        LAt (upd H4 D (.dK (putK (dm (mFill n ps nw (ks.take j)).2) (Sum.inl ((k' : Nat) : Int)) (.int ((fstepR n ps nw (mFill n ps nw (ks.take j)) k').1 : Nat))))) L (mFill n ps nw (ks.take (j + 1))).1 ∧
        upd H4 D (.dK (putK (dm (mFill n ps nw (ks.take j)).2) (Sum.inl ((k' : Nat) : Int)) (.int ((fstepR n ps nw (mFill n ps nw (ks.take j)) k').1 : Nat)))) D = some (.dK (dm (mFill n ps nw (ks.take (j + 1))).2)) ∧
        (∀ b o, H11 b = some o → b ≠ L → b ≠ D → upd H4 D (.dK (putK (dm (mFill n ps nw (ks.take j)).2) (Sum.inl ((k' : Nat) : Int)) (.int ((fstepR n ps nw (mFill n ps nw (ks.take j)) k').1 : Nat)))) b = some o) := by
      intro H4 v14 v15 hp4 hk4
      have hD4 := hk4 _ _ hDm LD.symm
      refine ⟨v14, v15, rfl, ?_, ?_, fun b o e h1 h2 => ?_⟩
      · rw [em]; exact hp4.updK hD4
      · rw [upd_same, dm_put hnk, em]; rfl
      · rw [upd_ne h2]; exact hk4 _ _ (f _ _ e h1 h2) h1
    have getm : ∀ z, z ∈ ks.take j → DGet H3 D (.int (z : Nat)) (some (.int (look (mFill n ps nw (ks.take j)).2 z : Nat))) := fun z hz => by
      have dg := DGet.k (k := Sum.inl ((z : Nat) : Int)) hDm
      rw [valV_dm, if_pos (by rw [ci.keys]; exact hz)] at dg
      exact dg
    have stay : ∀ (v14 v15 : Option V), (fstepR n ps nw (mFill n ps nw (ks.take j)) k') = (k', (mFill n ps nw (ks.take j)).1) → _ := fun v14 v15 er => fin H3 v14 v15 (by rw [er]; exact hP) fun b o e _ => e
    refine ⟨_, rfl, g, _, 0, _, rfl, rfl, SqT.of hG, tag0 r, rfl, _, rfl, ?_⟩
    cases r with
    | op o x y =>
      obtain ⟨hx', hy'⟩ := hab o x y rfl
      have er : fstepR n ps nw (mFill n ps nw (ks.take j)) k' = mApply n (mFill n ps nw (ks.take j)).1 o (look (mFill n ps nw (ks.take j)).2 x) (look (mFill n ps nw (ks.take j)).2 y) := by unfold fstepR; rw [hpk]
      refine iteN (op_get_f o) (iteN (by decide) ?_)
      refine ⟨_, rfl, g, _, rfl, SqT.of hG, rfl, _, rfl, iteN (by simp [Part.vals]) ?_⟩
      refine ⟨_, rfl, _, rfl, _, rfl, g, _, 0, _, rfl, rfl, SqT.of hG, rfl, _, rfl, _, rfl, g, _, 1, _, rfl, rfl, SqT.of hG, rfl, D, _, rfl, getm x hx', _, rfl, _, rfl, g, _, 2, _, rfl, rfl, SqT.of hG, rfl, D, _, rfl, getm y hy', ?_⟩
      refine ⟨L, _, n, o, _, _, rfl, hP, hlen, n12, ci.look hx', ci.look hy', fun H4 hp4 hk4 => ?_⟩
      rw [← er] at hp4 ⊢
      exact ⟨_, rfl, _, rfl, D, _, rfl, DPut.k (k := Sum.inl ((k' : Nat) : Int)) (hk4 _ _ hDm LD.symm) hz, fin H4 _ _ hp4 hk4⟩
    | get v =>
      have g0 := (pu.po.ok.get _ _ hpk).1
      refine iteP (dT rfl) ?_
      refine ⟨_, rfl, g, _, 1, .int v, rfl, rfl, SqT.of hG, rfl, _, rfl, Nw, _, rfl, SqL.of hN3, _, _, rfl, rfl, _, rfl, ?_⟩
      by_cases hv : v < nw.length
      · have er : fstepR n ps nw (mFill n ps nw (ks.take j)) k' = (nw.getD v.toNat 0, (mFill n ps nw (ks.take j)).1) := by unfold fstepR; rw [hpk]; exact if_pos hv
        refine iteP (dT (by rw [natL_len]; exact hv)) ?_
        have := fin H3 (some (.int (k' : Nat))) (some (.ref g)) (by rw [er]; exact hP) fun b o e _ => e
        rw [er] at this
        have hat' : atI (natL nw) v = some (.int (nw.getD v.toNat 0 : Nat)) := by
          have := natL_at (pl := nw) (a := v.toNat) (by omega)
          rwa [Int.toNat_of_nonneg g0] at this
        exact ⟨_, rfl, _, rfl, g, _, 1, .int v, rfl, rfl, SqT.of hG, rfl, Nw, _, _, _, rfl, rfl, SqL.of hN3, hat', _, rfl, _, rfl, D, _, rfl, DPut.k (k := Sum.inl ((k' : Nat) : Int)) hDm hz, this⟩
      · have er : fstepR n ps nw (mFill n ps nw (ks.take j)) k' = (k', (mFill n ps nw (ks.take j)).1) := by unfold fstepR; rw [hpk]; exact if_neg hv
        refine iteN (dF (by rw [natL_len]; exact hv)) ?_
        have := stay (some (.int (k' : Nat))) (some (.ref g)) er
        rw [er] at this
        exact ⟨_, rfl, g, _, rfl, SqT.of hG, rfl, _, rfl, iteP (dT rfl) ⟨_, rfl, _, rfl, _, rfl, D, _, rfl, DPut.k (k := Sum.inl ((k' : Nat) : Int)) hDm hz, this⟩⟩
    | num v =>
      have er : fstepR n ps nw (mFill n ps nw (ks.take j)) k' = (k', (mFill n ps nw (ks.take j)).1) := by unfold fstepR; rw [hpk]
      refine iteN num_get_f (iteN (by decide) ?_)
      have := stay (some (.int (k' : Nat))) (some (.ref g)) er
      rw [er] at this
      exact ⟨_, rfl, g, _, rfl, SqT.of hG, rfl, _, rfl, iteP (dT rfl) ⟨_, rfl, _, rfl, _, rfl, D, _, rfl, DPut.k (k := Sum.inl ((k' : Nat) : Int)) hDm hz, this⟩⟩
  rintro σ' H12 ⟨v14, v15, rfl, hP12, hD12, f12⟩
  rw [natL_len, List.take_length] at hP12 hD12
  have ci := fill_inv (u := u) n1 pu.po hnw hr hi ks.length
  rw [List.take_length] at ci
  -- what stands behind the turns
  have hpool12 : PoolAt T.C H12 a l d n ps := by
    obtain ⟨dx0, ho0⟩ := id st11.pool.ob
    obtain ⟨_, hll, _⟩ := id st11.pool.lst
    obtain ⟨_, hLL, _⟩ := id st11.parts
    exact st11.pool.keep (S := fun b => b = L ∨ b = D) (fun b o e hb => f12 b o e (fun z => hb (.inl z)) fun z => hb (.inr z))
      (by rintro (z | z); exact ne_of ho0 hLL (by intro z; cases z) z; exact ne_of ho0 hD11 (by intro z; cases z) z)
      (by rintro (z | z); exact ne.Ll z.symm; exact oD.o3 z.symm)
      (by rintro (z | z); exact ne_of st11.pool.dic hLL (by intro z; cases z) z; exact oD.o7 z.symm)
      (fun t xs e => by rintro (z | z); exact ne_of e hLL (by intro z; cases z) z; exact ne_of e hD11 (by intro z; cases z) z)
  have hrows12 : LAt H12 R rs := by
    obtain ⟨_, hLL, _⟩ := id st11.parts
    exact st11.rows.keep (S := fun b => b = L ∨ b = D) (fun b o e hb => f12 b o e (fun z => hb (.inl z)) fun z => hb (.inr z))
      (by rintro (z | z); exact ne.RL z; exact oD.o5 z.symm)
      (fun t xs e => by rintro (z | z); exact ne_of e hLL (by intro z; cases z) z; exact ne_of e hD11 (by intro z; cases z) z)
  have hdr12 : Dr H12 p q := st11.dr.keep (S := fun b => b = L ∨ b = D) (fun b o e hb => f12 b o e (fun z => hb (.inl z)) fun z => hb (.inr z)) (by rintro (z | z); exact ne.Lp z.symm; exact oD.o1 z.symm) (by rintro (z | z); exact Lq z.symm; exact oD.o2 z.symm)
  have hpl12 := f12 _ _ st11.places ne.PlL oD.o6.symm
  have hw12 := f12 _ _ hw11 oW.o4 WD
  have hp12 := f12 _ _ hp11 oP.o4 PD
  have hn12 := f12 _ _ hn11 oN.o4 ND
  have hk12 := f12 _ _ hk11 oK.o4 KD
  -- put_in
  have Dl := oD.o3
  refine ⟨_, rfl, _, rfl, _, rfl, Pl, _, _, _, rfl, rfl, SqL.of hpl12, natL_at (by omega), _, rfl, a, l, d, n, u, ps, _, .ref Nw, rfl, hpool12, pu.po, by omega, n1, n12, rfl, fun z => absurd (good_of hi) z, fun i ei _ => .inr ⟨natL nw, ⟨Nw, rfl, .inl hn12, plain_nat, by rw [natL_len]; omega⟩, fun z => absurd (goodR_of hnw) z, fun pl' epl _ H13 ks' hr' ci' hp13 f13 => ?_⟩⟩
  have ei' : pl.getD at_ 0 = i := by injection ei with ei; omega
  subst ei'
  obtain rfl := natL_inj epl
  obtain rfl := hr.uniq hr'
  clear ci'
  obtain ⟨_, hll12, _⟩ := id hpool12.lst
  have hd12 := hpool12.dic
  have hL13 := hP12.but2 hll12 hd12 ne.Ll f13
  have hR13 := hrows12.but2 hll12 hd12 ne.Rl f13
  obtain ⟨_, _, hpp12, hqq12, _⟩ := id hdr12
  have hdr13 : Dr H13 p q := hdr12.keep (S := fun b => b = l ∨ b = d) (fun b o e hb => f13 b o e (fun z => hb (.inl z)) fun z => hb (.inr z)) (by rintro (z | z); exact ne.lp z.symm; exact ne_of hpp12 hd12 (by intro z; cases z) z) (by rintro (z | z); exact lq z.symm; exact ne_of hqq12 hd12 (by intro z; cases z) z)
  have Pld : Pl ≠ d := ne_of hpl12 hd12 (by intro z; cases z)
  have hpl13 := f13 _ _ hpl12 ne.Pll Pld
  have hw13 := f13 _ _ hw12 oW.o3 oW.o7
  have hp13' := f13 _ _ hp12 oP.o3 oP.o7
  have hn13 := f13 _ _ hn12 oN.o3 oN.o7
  have hk13 := f13 _ _ hk12 oK.o3 oK.o7
  have hD13 := f13 _ _ hD12 oD.o3 oD.o7
  have hll2 : (mFill n ps nw ks).1.length ≤ 400 := by have := ci.len; omega
  have po' := ci.rows
  have jlt := ci.look ((hr.mem (pl.getD at_ 0)).mpr .self)
  have st13 : LS T.C H13 n rs (mFill n ps nw ks).1 pl p q a l d L R Pl := ⟨hdr13, hp13, hL13, hR13, hpl13⟩
  have fwm := fun mm hm => fw hr hat (mm := mm) hm
  have dg := DGet.k (k := Sum.inl ((pl.getD at_ 0 : Nat) : Int)) hD13
  rw [valV_dm, if_pos (by rw [ci.keys]; exact (hr.mem _).mpr .self)] at dg
  generalize (mFill n ps nw ks).1 = ps' at *
  generalize look (mFill n ps nw ks).2 (pl.getD at_ 0) = J at *
  clear hpool12 hrows12 hdr12 f12 f13 hD12 hP12 hD13 hw12 hp12 hn12 hk12 hpl12
  -- if told != ..
  refine ⟨_, rfl, _, rfl, _, rfl, _, rfl, Pl, _, _, _, rfl, rfl, SqL.of st13.places, natL_at (by omega), D, _, rfl, dg, rfl, _, rfl, iteN (neI rfl) ?_⟩
  obtain ⟨dx13, l', ys, o1, o2, o3, o4, o5⟩ := listFacts T st13.pool (by omega)
  refine ⟨_, rfl, a, dx13, _, l', ys, rfl, o1, o2, o3, o4, fun g H14 hg s14 hg14 => ⟨_, rfl, neL (o5 g H14 s14 hg14) (st13.parts.news s14) ⟨_, rfl, iteN (by decide) ?_⟩⟩⟩
  have st14 := st13.news s14
  refine ⟨_, rfl, _, rfl, neIL (ws := nw.map fun (k : Nat) => ((k : Nat) : Int)) (SqL.of (by rw [← natL_int]; exact s14 _ _ hn13)) (SqL.of (by rw [← natL_int]; exact s14 _ _ hk13)) ⟨_, rfl, iteN (by decide) ?_⟩⟩
  have hw14 := s14 _ _ hw13
  have hp14 := s14 _ _ hp13'
  have hn14 := s14 _ _ hn13
  clear o1 o2 o3 o4 o5
  -- due
  refine ⟨_, rfl, _, rfl, _, rfl, R, W, n, u, rs, ws, rfl, st14.rows, hw14, pu.ro.ok, fun k g e => (by have := pu.ro.gets k g e; omega), n12, by omega, fun H15 Du s15 hDu hDu15 => ?_⟩
  have st15 := st14.news s15
  have hw15 := s15 _ _ hw14
  have hp15 := s15 _ _ hp14
  have hn15 := s15 _ _ hn14
  -- moved
  refine ⟨_, rfl, W, _, rfl, SqL.of hw15, fun Mv hMv => ?_⟩
  have s16 := same_new (o := .lst (intL ws)) hMv
  have oM := st15.off hMv
  have st16 := st15.news s16
  have hw16 := s16 _ _ hw15
  have hp16 := s16 _ _ hp15
  have hn16 := s16 _ _ hn15
  have hDu16 := s16 _ _ hDu15
  have hMv16 : upd H15 Mv (.lst (intL ws)) Mv = some (.lst (intL (mvL ws (evs n (envOf ws) rs) pk 0))) := upd_same
  have MW : Mv ≠ W := (ne_of_none hw15 hMv).symm
  have MP : Mv ≠ Pk := (ne_of_none hp15 hMv).symm
  have MN : Mv ≠ Nw := (ne_of_none hn15 hMv).symm
  have MD : Mv ≠ Du := (ne_of_none hDu15 hMv).symm
  have hMvl : upd H15 Mv (.lst (intL ws)) Mv = some (.lst (intL ws)) := upd_same
  generalize upd H15 Mv (.lst (intL ws)) = H16 at *
  obtain ⟨mm, hmm, hmn⟩ : ∃ mm : Nat, (if (((natL pk).length : Nat) : Int) < (((intL ws).length : Nat) : Int) then (((natL pk).length : Nat) : Int) else (((intL ws).length : Nat) : Int)) = (mm : Nat) ∧ mm = min u pk.length := by
    rw [natL_len, intL_len]
    by_cases h2 : ((pk.length : Nat) : Int) < ((ws.length : Nat) : Int)
    · exact ⟨pk.length, by rw [if_pos h2], by omega⟩
    · exact ⟨ws.length, by rw [if_neg h2], by omega⟩
  obtain ⟨gmv, hval⟩ := fwm mm hmn
  refine ⟨_, rfl, Mv, _, rfl, SqL.of hMvl, _, rfl, Pk, _, rfl, SqL.of hp16, _, _, rfl, ?_⟩
  rw [hmm]
  refine ⟨_, rfl, by omega, by omega, ?_⟩
  have del : (evs n (envOf ws) rs).length = rs.length := evs_len _ _ _
  refine for_range (lo := 0) (n := ((mm : Nat) : Int).toNat) (fun j σ' H' => ∃ v19 : Option V, σ' = [some (.ref p), some (.ref a), some (.ref L), some (.ref R), some (.ref Pl), some (.int (u : Nat)), some (.int (n : Nat)), some (.ref W), some (.ref Pk), v9, some (.ref Nw), some (.ref Kp), some (.int (at_ : Nat)), some (.ref D), v14, v15, some (.int (J : Nat)), some (.ref Du), some (.ref Mv), v19, none] ∧
    LS T.C H' n rs ps' pl p q a l d L R Pl ∧ H' W = some (.lst (intL ws)) ∧ H' Pk = some (.lst (natL pk)) ∧ H' Nw = some (.lst (natL nw)) ∧ H' Du = some (.lst (intL (evs n (envOf ws) rs))) ∧ H' Mv = some (.lst (intL (mvL ws (evs n (envOf ws) rs) pk j)))) ⟨none, rfl, st16, hw16, hp16, hn16, hDu16, hMv16⟩ ?_ ?_
  · rintro j σ' H17 hj ⟨v19, rfl, st17, hw17, hp17, hn17, hDu17, hMv17⟩
    rw [Int.toNat_natCast] at hj
    rw [Int.zero_add]
    have hjp : j < pk.length := by omega
    have hpj : pk.getD j 0 < rs.length := by
      rw [List.getD_eq_getElem?_getD, List.getElem?_eq_getElem hjp]
      exact gpk _ (List.getElem_mem hjp)
    refine ⟨_, rfl, _, rfl, _, rfl, Pk, _, _, _, rfl, rfl, SqL.of hp17, natL_at hjp, Du, _, _, _, rfl, rfl, SqL.of hDu17, intL_at (by omega), ?_⟩
    refine ⟨_, rfl, _, rfl, Mv, _, _, j, rfl, rfl, hMv17, ixN_nat (by rw [intL_len, mvL_len]; omega), _, rfl, st17.upd oM hMv17, by rw [upd_ne MW.symm]; exact hw17, by rw [upd_ne MP.symm]; exact hp17, by rw [upd_ne MN.symm]; exact hn17, by rw [upd_ne MD.symm]; exact hDu17, ?_⟩
    rw [upd_same]
    show _ = some (HO.lst (intL ((mvL ws (evs n (envOf ws) rs) pk j).set j _)))
    unfold intL
    rw [List.map_set]
  rintro σ' H17 ⟨v19, rfl, st17, hw17, hp17, hn17, hDu17, hMv17⟩
  rw [Int.toNat_natCast] at hMv17
  -- the word at the words moved
  obtain ⟨dx17, ho17⟩ := id st17.pool.ob
  refine ⟨_, rfl, a, dx17, _, rfl, ho17, no_meth (by decide +kernel), _, rfl, _, rfl, a, l, d, W, n, ps', J, ws, rfl, st17.pool, po'.ok, by omega, n12, jlt, .inl hw17, gws, fun k g e => (by have := po'.gets k g e; omega), fun H18 s18 => ?_⟩
  have st18 := st17.news s18
  have hMv18 := s18 _ _ hMv17
  have mvl : (mvL ws (evs n (envOf ws) rs) pk mm).length = u := by rw [mvL_len, hwl]
  rw [hval]
  generalize mvL ws (evs n (envOf ws) rs) pk mm = mws at *
  refine ⟨_, rfl, _, rfl, _, rfl, R, Mv, n, u, rs, mws, rfl, st18.rows, hMv18, pu.ro.ok, fun k g e => (by have := pu.ro.gets k g e; omega), n12, by omega, fun H19 Z s19 hZ hZ19 => ?_⟩
  have st19 := st18.news s19
  have hn19 := s19 _ _ (s18 _ _ hn17)
  have dml : (evs n (envOf mws) rs).length = rs.length := evs_len _ _ _
  refine ⟨_, rfl, Z, _, _, _, rfl, rfl, SqL.of hZ19, intL_at (by omega), rfl, _, rfl, iteN (neI rfl) ?_⟩
  -- what is no part
  obtain ⟨xs19, hX19, ex19, _⟩ := st19.parts.item
  refine ⟨1, rfl, _, rfl, L, xs19, rfl, SqL.of hX19, by show 3 ≤ sizeLine; omega, fun B hB => ?_⟩
  generalize hbl : [V.int (-1), V.int (xs19.length : Nat), V.non] = bads
  have sB := same_new (o := .lst bads) hB
  have oB := st19.off hB
  have st20 := st19.news sB
  have hB20 : upd H19 B (.lst bads) B = some (.lst bads) := upd_same
  have hn20 := sB _ _ hn19
  refine ⟨_, rfl, p, q, _, rfl, st20.dr, ne.pq, by decide, fun H21 v v0 v1 d21 f21 => ?_⟩
  have st21 := st20.take ne d21 f21
  have hB21 := f21 _ _ hB20 oB.o1
  have hn21 := f21 _ _ hn20 oN.o1
  obtain ⟨x, hx, px, gx⟩ : ∃ x : V, atI bads v = some x ∧ plainV x = true ∧ ¬ goodP ps'.length x = true := by
    subst hbl
    have : v = 0 ∨ v = 1 ∨ v = 2 := by omega
    rcases this with rfl | rfl | rfl
    · exact ⟨_, rfl, rfl, fun z => by obtain ⟨i, e, _⟩ := of_good z; injection e with e; omega⟩
    · exact ⟨_, rfl, rfl, fun z => by obtain ⟨i, e, hi⟩ := of_good z; injection e with e; omega⟩
    · exact ⟨_, rfl, rfl, fun z => by cases z⟩
  refine ⟨B, _, _, _, rfl, rfl, SqL.of hB21, hx, ?_⟩
  refine ⟨_, rfl, _, rfl, _, rfl, a, l, d, n, u, ps', x, _, rfl, st21.pool, po', by omega, n1, n12, ⟨px, .inl gx⟩, fun H22 s22 => ?_⟩
  have st22 := st21.news s22
  have hn22 := s22 _ _ hn21
  refine ⟨rfl, _, rfl, iteN (by decide) ?_⟩
  refine ⟨_, rfl, _, rfl, _, rfl, one_le, fun m hm => ?_⟩
  have s23 := same_new (o := .lst [x]) hm
  refine ⟨Nw, m, _, _, rfl, rfl, s23 _ _ hn22, upd_same, by rw [natL_len, List.length_singleton]; omega, fun f hf => ?_⟩
  have s24 := same_new (o := .lst (natL nw ++ [x])) hf
  have s2324 := s23.trans s24
  refine ⟨a, l, d, n, u, ps', .int 0, .ref f, rfl, st22.pool.news s2324, po', by omega, n1, n12, ⟨rfl, .inr (.inr ⟨natL nw ++ [x], ⟨f, rfl, .inl upd_same, fun y hy => ?_, by rw [List.length_append, natL_len, List.length_singleton]; omega⟩, fun z => ?_⟩)⟩, fun H25 s25 => ?_⟩
  · rcases List.mem_append.mp hy with hy | hy
    · exact plain_nat y hy
    · simp at hy; subst hy; exact px
  · unfold goodR at z
    rw [List.all_append, Bool.and_eq_true] at z
    have := z.2
    simp at this
    exact gx this
  have st25 := st22.news (s2324.trans s25)
  refine ⟨rfl, _, rfl, iteN (by decide) ?_⟩
  refine ⟨_, rfl, a, l, d, n, u, ps', .int 0, .non, rfl, st25.pool, po', by omega, n1, n12, ⟨rfl, .inr (.inl rfl)⟩, fun H26 s26 => ?_⟩
  have st26 := st25.news s26
  refine ⟨rfl, _, rfl, iteP (by decide) ?_⟩
  obtain ⟨dx26, l2, ys2, o1, o2, o3, o4, o5⟩ := listFacts T st26.pool (by omega)
  exact ⟨_, rfl, a, dx26, _, l2, ys2, rfl, o1, o2, o3, o4, fun g' H27 hg' s27 hg27 => ⟨_, rfl, eqL (o5 g' H27 s27 hg27) (st26.parts.news s27) (k H27 ps' (st26.news s27) hll2)⟩⟩
end
end My

/-! LP -/
namespace My
open PySem L2
local macro_rules | `(tactic| walk_at "side") => `(tactic| first | with_reducible rfl | assumption | rfl | decide | omega | exact cpow1 (by omega) (by omega) | exact cdiv (by omega) (by omega) | exact two_pos _ | exact SqL.of (by assumption) | exact SqT.of (by assumption) | exact TyX.base (TyOf.int _) | exact TyX.base (TyOf.bl _) | exact TyX.base TyOf.non | exact scal_opt _ _ | exact k_ii | exact k_bi | exact k_ni | exact k_ib | exact k_bb | exact TyX.base (TyOf.lst (by assumption)) | exact k_ll | exact k_lt)
local macro_rules | `(tactic| walk_at "p") => `(tactic| repeat (first | refine And.intro (by walk_at "side") ?_ | apply Exists.intro | refine iteN (by assumption) ?_ | refine iteP (by assumption) ?_ | refine iteN (by decide) ?_ | refine iteP (by decide) ?_))

/-! ### a full pool -/
def numsL (j : Nat) : List Part := (List.range j).map fun (k : Nat) => Part.num (k : Nat)
theorem numsL_len (j : Nat) : (numsL j).length = j := by unfold numsL; simp
theorem numsL_at {j k : Nat} (h : k < j) : (numsL j)[k]? = some (.num (k : Nat)) := by unfold numsL; rw [List.getElem?_map, List.getElem?_range h]; rfl
theorem mem_nums {j : Nat} {v : Int} : Part.num v ∈ numsL j ↔ 0 ≤ v ∧ v < j := by
  unfold numsL
  rw [List.mem_map]
  constructor
  · rintro ⟨k, hk, e⟩
    injection e with e
    rw [List.mem_range] at hk
    omega
  · rintro ⟨h0, h1⟩
    exact ⟨v.toNat, List.mem_range.mpr (by omega), by rw [Int.toNat_of_nonneg h0]⟩
theorem get_nums {j : Nat} {v : Int} : Part.get v ∉ numsL j := fun h => by
  unfold numsL at h
  obtain ⟨k, _, e⟩ := List.mem_map.mp h
  cases e
theorem numsL_succ (j : Nat) : numsL j ++ [.num (j : Nat)] = numsL (j + 1) := by unfold numsL; rw [List.range_succ, List.map_append]; rfl
theorem mk_next (j : Nat) : mk (numsL j) (.num (j : Nat)) = (j, numsL (j + 1)) := by
  unfold mk
  rw [if_neg fun h => by have := (mem_nums.mp h).2; omega, numsL_len, numsL_succ]
theorem idx_nums {j k : Nat} (h : k < j) : (numsL j).idxOf (.num (k : Nat)) = k := by
  have hm : Part.num (k : Nat) ∈ numsL j := mem_nums.mpr ⟨by omega, by omega⟩
  have h1 := List.idxOf_lt_length_iff.mpr hm
  have h2 : (numsL j)[(numsL j).idxOf (.num (k : Nat))]? = some (.num (k : Nat)) := by rw [List.getElem?_eq_getElem h1, List.getElem_idxOf]
  rw [numsL_len] at h1
  rw [numsL_at h1] at h2
  injection h2 with h2
  injection h2 with h2
  omega
theorem mk_there {j k : Nat} (h : k < j) : mk (numsL j) (.num (k : Nat)) = (k, numsL j) := by
  unfold mk
  rw [if_pos (mem_nums.mpr ⟨by omega, by omega⟩), idx_nums h]
theorem word_nums {j k : Nat} (h : k < j) : wordOf (numsL j) k = some ((k : Nat) : Int) := by rw [wordOf_at (numsL_at h)]; rfl
theorem apply_nums {j a b w : Nat} {o : Op} (ha : a < j) (hb : b < j) : mApply w (numsL j) o a b = mk (numsL j) (.num (opI w o (a : Nat) (b : Nat))) := by
  unfold mApply; rw [word_nums ha, word_nums hb]
theorem mk_full {p : Part} (h : p ∉ numsL 4000) : ¬ (mk (numsL 4000) p).2.length ≤ 4000 := by
  unfold mk
  rw [if_neg h, List.length_append, numsL_len, List.length_singleton]; omega
section
variable {P : Program} {w : World} {K : PySem.W.Frag} {mg : Str → Option Value} {base : Heap}
def sp_law_refused (T : Txt K mg) : Sp := fun vs H Q _ => ∃ (a l d : Addr) (door : Int), vs = [.ref a, .int door] ∧ PoolAt T.C H a l d 12 (numsL 4000) ∧ 0 ≤ door ∧ door ≤ 2 ∧ ∀ H', Same H H' → Q (.str "parts") H'
theorem sp_law_refused_len {T : Txt K mg} {vs H Q E} (h : sp_law_refused T vs H Q E) : vs.length = 2 := by obtain ⟨_, _, _, _, rfl, _⟩ := h; rfl
theorem ok_law_refused (T : Txt K mg) : FnOk P w K mg base CX0 5 T.f_law_refused T.fd_law_refused ["_law_pool", "_law_door"] (sp_law_refused T) := by
  have G_p_apply := ok_p_apply (P := P) (w := w) (base := base) T; have G_p_num := ok_p_num (P := P) (w := w) (base := base) T; have G_p_unknown := ok_p_unknown (P := P) (w := w) (base := base) T
  refine T.F_law_refused.ok sc_law_refused (fun vs H Q E h => sp_law_refused_len h) (fun cdv A outer s H vs Q E hr h => ?_)
  obtain ⟨a, l, d, door, rfl, hp, d0, d2, k⟩ := h
  obtain ⟨dx, ho⟩ := id hp.ob
  refine ⟨_, (pss_cons (ps_set (i := 2) sc_law_refused.nd rfl (Or.inl rfl) pe_str)
       (pss_cons (ps_try_as (i := 3) (Wout := fun _ _ _ _ => False) rfl rfl sc_law_refused.nd rfl rfl ⟨rfl, by decide, Or.inl T.g_TooMany⟩ takes0
       (fun W pn xe tk _ => (pss_one (ps_if (pt_cmpR op_eq (pv 1) pe_int (nomark _))
        (pss_one (ps_expr (pe_methS (pv 0) T.cl T.m_p_num G_p_num hr T.b_p_num (fun σ => passAt tk σ) (pa_cons pe_int pa_nil))))
        (pss_one (ps_if (pt_cmpR op_eq (pv 1) pe_int (nomark _))
        (pss_one (ps_expr (pe_methS (pv 0) T.cl T.m_p_unknown G_p_unknown hr T.b_p_unknown (fun σ => passAt tk σ) (pa_cons pe_int pa_nil))))
        (pss_one (ps_expr (pe_methS (pv 0) T.cl T.m_p_apply G_p_apply hr T.b_p_apply (fun σ => passAt tk σ) (pa_cons pe_str (pa_cons pe_int (pa_cons pe_int pa_nil)))))))))))
       (fun a oe cls d pn hz hf => (pss_one (ps_set (i := 2) sc_law_refused.nd rfl (Or.inl rfl) (pe_xf T.xf_TooMany T.nf_TooMany hz hf (pv 3))))))
       (pss_one (ps_ret (pv 2))))), ?_⟩
  have nl := numsL_len 4000
  have hl : ("name" : Str) = "name" := rfl
  refine ⟨_, rfl, rfl, _, rfl, ?_⟩
  by_cases h0 : door = 0
  · subst h0
    refine iteP (by decide) ?_
    refine ⟨_, rfl, a, dx, _, rfl, ho, no_meth (by decide +kernel), a, l, d, 12, numsL 4000, 4000, rfl, hp, by rw [nl]; exact Nat.le_refl _, by decide, by decide, fun z => absurd z (mk_full fun m => by have := (mem_nums.mp m).2; omega), fun _ H' e s he => ?_⟩
    exact ⟨true, T.te_TooMany, fun _ b hb => ⟨_, rfl, rfl, rfl, e, _, _, rfl, upd_same, by rw [lk, if_pos rfl], ⟨_, rfl, k _ (s.trans (same_new he))⟩⟩, fun z => by cases z⟩
  refine iteN (dF fun z => h0 (by injection z)) ?_
  refine ⟨_, rfl, rfl, _, rfl, ?_⟩
  by_cases h1 : door = 1
  · subst h1
    refine iteP (by decide) ?_
    refine ⟨_, rfl, a, dx, _, rfl, ho, no_meth (by decide +kernel), a, l, d, 12, numsL 4000, 5, rfl, hp, by rw [nl]; exact Nat.le_refl _, by decide, by decide, fun z => absurd z (mk_full get_nums), fun _ H' e s he => ?_⟩
    exact ⟨true, T.te_TooMany, fun _ b hb => ⟨_, rfl, rfl, rfl, e, _, _, rfl, upd_same, by rw [lk, if_pos rfl], ⟨_, rfl, k _ (s.trans (same_new he))⟩⟩, fun z => by cases z⟩
  refine iteN (dF fun z => h1 (by injection z)) ?_
  have ea : mApply 12 (numsL 4000) .sub 0 1 = mk (numsL 4000) (.num 4095) := by rw [apply_nums (by omega) (by omega)]; rfl
  refine ⟨_, rfl, a, dx, _, rfl, ho, no_meth (by decide +kernel), a, l, d, 12, numsL 4000, .sub, 0, 1, rfl, hp, by rw [nl]; exact Nat.le_refl _, by decide, by rw [nl]; omega, by rw [nl]; omega, ?_⟩
  rw [ea]
  refine ⟨fun z => absurd z (mk_full fun m => by have := (mem_nums.mp m).2; omega), fun _ H' e s he => ?_⟩
  exact ⟨true, T.te_TooMany, fun _ b hb => ⟨_, rfl, rfl, rfl, e, _, _, rfl, upd_same, by rw [lk, if_pos rfl], ⟨_, rfl, k _ (s.trans (same_new he))⟩⟩, fun z => by cases z⟩
/-- a new pool: what it leaves -/
theorem mkFacts {C : Addr} {H1 H2 : Hp} {x dx l d : Addr} (hx : H1 x = none) (hdx : H1 dx = none) (hl : upd (upd H1 dx (.own x)) x (.ins C dx []) l = none) (hd : upd (upd H1 dx (.own x)) x (.ins C dx []) d = none)
    (f : ∀ b o, upd (upd H1 dx (.own x)) x (.ins C dx []) b = some o → b ≠ x → H2 b = some o) : Same H1 H2 ∧ H1 l = none ∧ H1 d = none := by
  have none_of : ∀ b : Addr, upd (upd H1 dx (.own x)) x (.ins C dx []) b = none → H1 b = none := fun b e => by
    by_cases h1 : b = x
    · subst h1; exact hx
    · rw [upd_ne h1] at e
      by_cases h2 : b = dx
      · subst h2; exact hdx
      · rw [upd_ne h2] at e; exact e
  refine ⟨fun b o e => ?_, none_of l hl, none_of d hd⟩
  have h1 : b ≠ x := ne_of_none e hx
  have h2 : b ≠ dx := ne_of_none e hdx
  exact f b o (by rw [upd_ne h1, upd_ne h2]; exact e) h1
def sp_law_full (T : Txt K mg) : Sp := fun vs H Q _ => vs = [] ∧ ∀ H', Same H H' → Q (.bl true) H'
theorem sp_law_full_len {T : Txt K mg} {vs H Q E} (h : sp_law_full T vs H Q E) : vs.length = 0 := by obtain ⟨rfl, _⟩ := h; rfl
theorem ok_law_full (T : Txt K mg) : FnOk P w K mg base CX0 6 T.f_law_full T.fd_law_full [] (sp_law_full T) := by
  have G_p_len := ok_p_len (P := P) (w := w) (base := base) T; have G_p_apply := ok_p_apply (P := P) (w := w) (base := base) T; have G_p_num := ok_p_num (P := P) (w := w) (base := base) T; have G_p_init := ok_p_init (P := P) (w := w) (base := base) T; have G_law_refused := ok_law_refused (P := P) (w := w) (base := base) T
  refine T.F_law_full.ok sc_law_full (fun vs H Q E h => sp_law_full_len h) (fun cdv A outer s H vs Q E hr h => ?_)
  obtain ⟨rfl, k⟩ := h
  refine ⟨_, (pss_cons (ps_set (i := 0) sc_law_full.nd rfl (Or.inl rfl) (pe_make T.M_Pool G_p_init hr rfl T.g_Pool T.b_p_init .nil pass0 (pa_cons pe_int pa_nil)))
       (pss_cons (ps_for PassesOwn.never rfl (pi_range1 (by rfl) T.n_range (pa_cons pe_int pa_nil)) (pg_name (i := 1) sc_law_full.nd rfl (Or.inl rfl))
        (pss_one (ps_if (pt_cmpR op_ne (pe_meth (pv 0) T.cl T.m_p_num G_p_num (hr.mono (by decide)) T.b_p_num .nil passL (pa_cons (pv 1) pa_nil)) (pv 1) (nomark _))
        (pss_one (ps_ret pe_bl))
        pss_nil)))
       (pss_cons (ps_for PassesOwn.never rfl (pi_range1 (by rfl) T.n_range (pa_cons pe_int pa_nil)) (pg_name (i := 2) sc_law_full.nd rfl (Or.inl rfl))
        (pss_one (ps_if (pt_cmpR op_ne (pe_call G_law_refused hr rfl T.g_law_refused T.F_law_refused.kp T.b_law_refused .nil pass0 (pa_cons (pv 0) (pa_cons (pv 2) pa_nil))) pe_str (nomark _))
        (pss_one (ps_ret pe_bl))
        pss_nil)))
       (pss_cons (ps_if (PW.pt (pw_or (pt_cmpR op_ne (pe_meth (pv 0) T.cl T.m_p_apply G_p_apply (hr.mono (by decide)) T.b_p_apply .nil passL (pa_cons pe_str (pa_cons pe_int (pa_cons pe_int pa_nil)))) pe_int (nomark _)) (pw_or (pt_cmpR op_ne (pe_meth (pv 0) T.cl T.m_p_num G_p_num (hr.mono (by decide)) T.b_p_num .nil passL (pa_cons pe_int pa_nil)) pe_int (nomark _)) (pw_or1 (pt_cmpR op_ne (pe_meth (pv 0) T.cl T.m_p_apply G_p_apply (hr.mono (by decide)) T.b_p_apply .nil passL (pa_cons pe_str (pa_cons pe_int (pa_cons pe_int pa_nil)))) pe_int (nomark _))))))
        (pss_one (ps_ret pe_bl))
        pss_nil)
       (pss_one (ps_ret (pe_cmpR op_eq (pe_callB (call_lenOwn T.m_p_len.1 (beq_iff_eq.mp T.m_p_len.2) G_p_len T.b_p_len (hr.mono (by decide))) (by rfl) T.n_len (by decide +kernel) (pa_cons (pv 0) pa_nil)) pe_int (nomark _)))))))), ?_⟩
  have p12 : (2 : Int) ^ 12 = 4096 := by decide
  refine fun a dxa ha hdxa hne => ⟨a, dxa, 12, rfl, upd_same, by decide, by decide, fun H1 l d hl hd _ hp1 f1 => ⟨rfl, ?_⟩⟩
  obtain ⟨s1, hl, hd⟩ := mkFacts ha hdxa hl hd f1
  refine ⟨4000, rfl, by decide, by decide, ?_⟩
  refine for_range (lo := 0) (n := (4000 : Int).toNat) (fun j σ' H2 => ∃ v1 : Option V, σ' = [some (.ref a), v1, none] ∧ PoolAt T.C H2 a l d 12 (numsL j) ∧ Same H H2) ⟨none, rfl, hp1, s1⟩ ?_ ?_
  · rintro j σ' H2 hj ⟨v1, rfl, hp2, s2⟩
    have hj : j < 4000 := hj
    obtain ⟨dx, ho⟩ := id hp2.ob
    rw [Int.zero_add]
    refine ⟨_, rfl, a, dx, _, rfl, ho, no_meth (by decide +kernel), _, rfl, a, l, d, 12, numsL j, (j : Nat), rfl, hp2, by rw [numsL_len]; omega, by omega, by omega, ?_⟩
    rw [mk_next]
    refine Made.x (fun H3 hp3 f3 => ?_) (by show (numsL (j + 1)).length ≤ 4000; rw [numsL_len]; omega)
    exact ⟨_, rfl, rfl, _, rfl, iteN (neI rfl) ⟨_, rfl, hp3, fun b o e => f3 b o (s2 b o e) (ne_of_none e hl) (ne_of_none e hd)⟩⟩
  rintro σ' H2 ⟨v1, rfl, hp2, s2⟩
  have hp2 : PoolAt T.C H2 a l d 12 (numsL 4000) := hp2
  refine ⟨3, rfl, by decide, by decide, ?_⟩
  refine for_range (lo := 0) (n := (3 : Int).toNat) (fun j σ' H3 => ∃ v2 : Option V, σ' = [some (.ref a), v1, v2] ∧ PoolAt T.C H3 a l d 12 (numsL 4000) ∧ Same H H3) ⟨none, rfl, hp2, s2⟩ ?_ ?_
  · rintro j σ' H3 hj ⟨v2, rfl, hp3, s3⟩
    have hj : j < 3 := hj
    exact ⟨_, rfl, _, rfl, a, l, d, _, rfl, hp3, by omega, by omega, fun H4 s4 => ⟨rfl, _, rfl, iteN (by decide) ⟨_, rfl, hp3.news s4, s3.trans s4⟩⟩⟩
  rintro σ' H3 ⟨v2, rfl, hp3, s3⟩
  have nl := numsL_len 4000
  have n4 : (numsL 4000).length ≤ 4000 := by rw [nl]; exact Nat.le_refl _
  have e1 : mApply 12 (numsL 4000) .add 1 2 = (3, numsL 4000) := by rw [apply_nums (by omega) (by omega)]; exact mk_there (k := 3) (by omega)
  have e2 : mk (numsL 4000) (.num 3999) = (3999, numsL 4000) := mk_there (k := 3999) (by omega)
  have e3 : mApply 12 (numsL 4000) .and 7 8 = (0, numsL 4000) := by rw [apply_nums (by omega) (by omega)]; exact mk_there (k := 0) (by omega)
  obtain ⟨dx, ho⟩ := id hp3.ob
  refine ⟨_, rfl, a, dx, _, rfl, ho, no_meth (by decide +kernel), a, l, d, 12, numsL 4000, .add, 1, 2, rfl, hp3, n4, by decide, by rw [nl]; omega, by rw [nl]; omega, ?_⟩
  rw [e1]
  refine Made.x (fun H4 hp4 f4 => ?_) n4
  have s4 : Same H H4 := fun b o e => f4 b o (s3 b o e) (ne_of_none e hl) (ne_of_none e hd)
  have hp4 : PoolAt T.C H4 a l d 12 (numsL 4000) := hp4
  obtain ⟨dx4, ho4⟩ := id hp4.ob
  refine ⟨rfl, _, rfl, iteN (by decide) ?_⟩
  refine ⟨_, rfl, a, dx4, _, rfl, ho4, no_meth (by decide +kernel), a, l, d, 12, numsL 4000, 3999, rfl, hp4, n4, by decide, by decide, ?_⟩
  rw [e2]
  refine Made.x (fun H5 hp5 f5 => ?_) n4
  have s5 : Same H H5 := fun b o e => f5 b o (s4 b o e) (ne_of_none e hl) (ne_of_none e hd)
  have hp5 : PoolAt T.C H5 a l d 12 (numsL 4000) := hp5
  obtain ⟨dx5, ho5⟩ := id hp5.ob
  refine ⟨rfl, _, rfl, iteN (by decide) ?_⟩
  refine ⟨_, rfl, a, dx5, _, rfl, ho5, no_meth (by decide +kernel), a, l, d, 12, numsL 4000, .and, 7, 8, rfl, hp5, n4, by decide, by rw [nl]; omega, by rw [nl]; omega, ?_⟩
  rw [e3]
  refine Made.x (fun H6 hp6 f6 => ?_) n4
  have s6 : Same H H6 := fun b o e => f6 b o (s5 b o e) (ne_of_none e hl) (ne_of_none e hd)
  have hp6 : PoolAt T.C H6 a l d 12 (numsL 4000) := hp6
  obtain ⟨dx6, ho6⟩ := id hp6.ob
  refine ⟨rfl, _, rfl, iteN (by decide) ?_⟩
  refine ⟨_, rfl, a, dx6, _, 4000, rfl, ho6, ⟨a, l, d, 12, numsL 4000, rfl, hp6, by rw [nl], rfl⟩, by decide, rfl, ?_⟩
  exact k H6 s6
end
end My

/-! LQ -/
namespace My
open PySem L2
local macro_rules | `(tactic| walk_at "side") => `(tactic| first | with_reducible rfl | assumption | rfl | decide | omega | exact cpow1 (by omega) (by omega) | exact cdiv (by omega) (by omega) | exact two_pos _ | exact SqL.of (by assumption) | exact SqT.of (by assumption) | exact TyX.base (TyOf.int _) | exact TyX.base (TyOf.bl _) | exact TyX.base TyOf.non | exact scal_opt _ _ | exact k_ii | exact k_bi | exact k_ni | exact k_ib | exact k_bb | exact TyX.base (TyOf.lst (by assumption)) | exact k_ll | exact k_lt)
local macro_rules | `(tactic| walk_at "p") => `(tactic| repeat (first | refine And.intro (by walk_at "side") ?_ | apply Exists.intro | refine iteN (by assumption) ?_ | refine iteP (by assumption) ?_ | refine iteN (by decide) ?_ | refine iteP (by decide) ?_))

theorem rows_set {n u : Nat} {plain : Bool} {rs : List Part} {k : Nat} {g : Int} (h : Rows n u plain rs) (g0 : 0 ≤ g) (gu : g < u) (u3 : u ≤ 3) : Rows n u plain (rs.set k (.get g)) := by
  have at_ : ∀ {i : Nat} {p : Part}, (rs.set k (.get g))[i]? = some p → p = .get g ∨ rs[i]? = some p := fun {i p} e => by
    rw [List.getElem?_set] at e
    split at e
    · split at e
      · exact .inl (Option.some.inj e).symm
      · cases e
    · exact .inr e
  refine ⟨⟨fun i o a b e => ?_, fun i v e => ?_, fun i v e => ?_⟩, fun i v e => ?_, fun q i o a b e => ?_⟩
  · rcases at_ e with e | e
    · cases e
    · exact h.ok.wf _ _ _ _ e
  · rcases at_ e with e | e
    · cases e; exact ⟨g0, by omega⟩
    · exact h.ok.get _ _ e
  · rcases at_ e with e | e
    · cases e
    · exact h.ok.num _ _ e
  · rcases at_ e with e | e
    · cases e; exact gu
    · exact h.gets _ _ e
  · rcases at_ e with e | e
    · cases e
    · exact h.pln q _ _ _ _ e
theorem LAt.set {H : Hp} {l t : Addr} {rs : List Part} {xs vs : List V} {k : Nat} {p : Part} (h : LAt H l rs) (hx : H l = some (.lst xs)) (hk : k < rs.length) (ev : vs = p.vals) (ht : H t = some (.tup vs)) : LAt (upd H l (.lst (xs.set k (.ref t)))) l (rs.set k p) := by
  subst ev
  obtain ⟨ts, h1, h2, h3⟩ := h
  rw [h1] at hx
  cases hx
  have nl : ∀ (b : Addr) (ys : List V), H b = some (.tup ys) → b ≠ l := fun b ys e => ne_of e h1 (by intro z; cases z)
  refine ⟨ts.set k t, by rw [upd_same, List.map_set], by rw [List.length_set, List.length_set]; exact h2, fun i q e => ?_⟩
  rw [List.getElem?_set] at e ⊢
  by_cases ek : k = i
  · subst ek
    rw [if_pos rfl, if_pos hk] at e
    cases e
    exact ⟨t, by rw [if_pos rfl, if_pos (by omega)], by rw [upd_ne (nl _ _ ht)]; exact ht⟩
  · rw [if_neg ek] at e ⊢
    obtain ⟨u, e1, e2⟩ := h3 i q e
    exact ⟨u, e1, by rw [upd_ne (nl _ _ e2)]; exact e2⟩
theorem LAt.take {H H' : Hp} {l p q : Addr} {ps : List Part} (h : LAt H l ps) (d : Dr H p q) (hl : l ≠ p) (f : Fr p H H') : LAt H' l ps := by
  obtain ⟨_, _, hp, _⟩ := d
  exact h.but hp hl f
theorem pu_all {n u : Nat} {rs : List Part} (n1 : 1 ≤ n) (n12 : n ≤ 12) (u3 : u ≤ 3) (ro : Rows n u false rs) (r1 : 2 ≤ rs.length) (r60 : rs.length < 60) : Pu n u rs (mAll n rs).1 (mAll n rs).2 := by
  have inv := mAll_inv n1 ro rs.length
  rw [List.take_length] at inv
  exact ⟨n1, n12, u3, ro, inv.rows, r1, r60, inv.plen, Nat.le_trans inv.len (by omega), inv.there, fun env he k hk => mAll_words n1 ro he hk⟩
section
variable {P : Program} {w : World} {K : PySem.W.Frag} {mg : Str → Option Value} {base : Heap}
def sp_law (T : Txt K mg) : Sp := fun vs H Q _ => ∃ (a : Addr) (xs : List Int), vs = [.ref a] ∧ SqL K H a (xs.map V.int) ∧ xs.length ≤ 63 ∧ ∀ H', Q (.bl true) H'
theorem sp_law_len {T : Txt K mg} {vs H Q E} (h : sp_law T vs H Q E) : vs.length = 1 := by obtain ⟨_, _, rfl, _⟩ := h; rfl
theorem ok_law (T : Txt K mg) : FnOk P w K mg base CX0 9 T.f_law T.fd_law ["_law_script"] (sp_law T) := by
  have G_p_init := ok_p_init (P := P) (w := w) (base := base) T; have G_law_all_made := ok_law_all_made (P := P) (w := w) (base := base) T; have G_law_draws := ok_law_draws (P := P) (w := w) (base := base) T; have G_law_edge_rows := ok_law_edge_rows (P := P) (w := w) (base := base) T; have G_law_filled := ok_law_filled (P := P) (w := w) (base := base) T; have G_law_full := ok_law_full (P := P) (w := w) (base := base) T; have G_law_made_of := ok_law_made_of (P := P) (w := w) (base := base) T; have G_law_right_words := ok_law_right_words (P := P) (w := w) (base := base) T; have G_law_take := ok_law_take (P := P) (w := w) (base := base) T; have G_law_term_rows := ok_law_term_rows (P := P) (w := w) (base := base) T; have G_law_told_parts := ok_law_told_parts (P := P) (w := w) (base := base) T
  refine T.F_law.ok sc_law (fun vs H Q E h => sp_law_len h) (fun cdv A outer s H vs Q E hr h => ?_)
  obtain ⟨s0, xs, rfl, hs, h63, k⟩ := h
  refine ⟨_, (pss_cons (ps_set (i := 1) sc_law.nd rfl (Or.inl rfl) (pe_call G_law_draws (hr.mono (by decide)) rfl T.g_law_draws T.F_law_draws.kp T.b_law_draws .nil pass0 (pa_cons (pv 0) pa_nil)))
       (pss_cons (ps_set (i := 2) sc_law.nd rfl (Or.inl rfl) (pe_ix ix_list (pe_lst (pa_cons pe_int (pa_cons pe_int (pa_cons pe_int (pa_cons pe_int (pa_cons pe_int (pa_cons pe_int pa_nil))))))) (pe_call G_law_take (hr.mono (by decide)) rfl T.g_law_take T.F_law_take.kp T.b_law_take .nil pass0 (pa_cons (pv 1) (pa_cons pe_int pa_nil))) (fun _ _ => rfl)))
       (pss_cons (ps_set (i := 3) sc_law.nd rfl (Or.inl rfl) (pe_op op_add pe_int (pe_call G_law_take (hr.mono (by decide)) rfl T.g_law_take T.F_law_take.kp T.b_law_take .nil pass0 (pa_cons (pv 1) (pa_cons pe_int pa_nil)))))
       (pss_cons (ps_set (i := 4) sc_law.nd rfl (Or.inl rfl) (pe_call G_law_term_rows (hr.mono (by decide)) rfl T.g_law_term_rows T.F_law_term_rows.kp T.b_law_term_rows .nil pass0 (pa_cons (pv 1) (pa_cons (pv 3) (pa_cons (pv 2) (pa_cons (pe_op op_add pe_int (pe_call G_law_take (hr.mono (by decide)) rfl T.g_law_take T.F_law_take.kp T.b_law_take .nil pass0 (pa_cons (pv 1) (pa_cons pe_int pa_nil)))) (pa_cons pe_bl pa_nil)))))))
       (Evl.pss_cut (ps_if (pt_cmpR op_eq (pe_call G_law_take (hr.mono (by decide)) rfl T.g_law_take T.F_law_take.kp T.b_law_take .nil pass0 (pa_cons (pv 1) (pa_cons pe_int pa_nil))) pe_int (nomark _))
        (pss_one (ps_for PassesOwn.never rfl (pi_range1 (by rfl) T.n_range (pa_cons (pv 3) pa_nil)) (pg_name (i := 5) sc_law.nd rfl (Or.inl rfl))
        (pss_one (ps_asg (pe_tup (pa_cons pe_str (pa_cons (pe_op op_sub (pe_op op_sub (pv 3) pe_int) (pv 5)) pa_nil))) (pg_sub (pv 4) (pv 5) set_list)))))
        pss_nil)
       (Evl.pss_cut (ps_if (pt_cmpR op_eq (pe_call G_law_take (hr.mono (by decide)) rfl T.g_law_take T.F_law_take.kp T.b_law_take .nil pass0 (pa_cons (pv 1) (pa_cons pe_int pa_nil))) pe_int (nomark _))
        (pss_one (ps_set (i := 4) sc_law.nd rfl (Or.inl rfl) (pe_call G_law_edge_rows (hr.mono (by decide)) rfl T.g_law_edge_rows T.F_law_edge_rows.kp T.b_law_edge_rows .nil pass0 (pa_cons (pv 1) (pa_cons (pv 4) (pa_cons (pv 2) pa_nil))))))
        pss_nil)
       (pss_cons (ps_set (i := 6) sc_law.nd rfl (Or.inl rfl) (pe_make T.M_Pool G_p_init (hr.mono (by decide)) rfl T.g_Pool T.b_p_init .nil pass0 (pa_cons (pv 2) pa_nil)))
       (pss_cons (ps_set (i := 7) sc_law.nd rfl (Or.inl rfl) (pe_make T.M_Pool G_p_init (hr.mono (by decide)) rfl T.g_Pool T.b_p_init .nil pass0 (pa_cons (pv 2) pa_nil)))
       (pss_cons (ps_set (i := 8) sc_law.nd rfl (Or.inl rfl) (pe_lst pa_nil))
       (pss_cons (ps_set (i := 9) sc_law.nd rfl (Or.inl rfl) (pe_call G_law_all_made (hr.mono (by decide)) rfl T.g_law_all_made T.F_law_all_made.kp T.b_law_all_made .nil pass0 (pa_cons (pv 6) (pa_cons (pv 7) (pa_cons (pv 8) (pa_cons (pv 2) (pa_cons (pv 4) pa_nil)))))))
       (pss_cons (ps_if (pt_cmpR op_ne (pe_callB call_lenL (by rfl) T.n_len (by decide +kernel) (pa_cons (pv 9) pa_nil)) (pe_callB call_lenL (by rfl) T.n_len (by decide +kernel) (pa_cons (pv 4) pa_nil)) (nomark _))
        (pss_one (ps_ret pe_bl))
        pss_nil)
       (pss_cons (ps_if (PW.pt (pw_or (pt_not (pt_val (pe_call G_law_told_parts (hr.mono (by decide)) rfl T.g_law_told_parts T.F_law_told_parts.kp T.b_law_told_parts .nil pass0 (pa_cons (pv 6) (pa_cons (pv 8) pa_nil))))) (pw_or1 (pt_not (pt_val (pe_call G_law_told_parts (hr.mono (by decide)) rfl T.g_law_told_parts T.F_law_told_parts.kp T.b_law_told_parts .nil pass0 (pa_cons (pv 7) (pa_cons (pv 8) pa_nil))))))))
        (pss_one (ps_ret pe_bl))
        pss_nil)
       (pss_cons (ps_for PassesOwn.never rfl (pi_range1 (by rfl) T.n_range (pa_cons pe_int pa_nil)) (pg_name (i := 10) sc_law.nd rfl (Or.inl rfl))
        (pss_cons (ps_if (pt_not (pt_val (pe_call G_law_right_words (hr.mono (by decide)) rfl T.g_law_right_words T.F_law_right_words.kp T.b_law_right_words .nil pass0 (pa_cons (pv 1) (pa_cons (pv 6) (pa_cons (pv 4) (pa_cons (pv 9) (pa_cons (pv 3) (pa_cons (pv 2) pa_nil)))))))))
        (pss_one (ps_ret pe_bl))
        pss_nil)
       (pss_one (ps_if (pt_not (pt_val (pe_call G_law_made_of (hr.mono (by decide)) rfl T.g_law_made_of T.F_law_made_of.kp T.b_law_made_of .nil pass0 (pa_cons (pv 1) (pa_cons (pv 6) (pa_cons (pv 8) pa_nil))))))
        (pss_one (ps_ret pe_bl))
        pss_nil))))
       (pss_cons (ps_if (pt_not (pt_val (pe_call G_law_filled hr rfl T.g_law_filled T.F_law_filled.kp T.b_law_filled .nil pass0 (pa_cons (pv 1) (pa_cons (pv 6) (pa_cons (pv 8) (pa_cons (pv 4) (pa_cons (pv 9) (pa_cons (pv 3) (pa_cons (pv 2) pa_nil))))))))))
        (pss_one (ps_ret pe_bl))
        pss_nil)
       (pss_cons (ps_if (PW.pt (pw_and (pt_cmpR op_eq (pe_call G_law_take (hr.mono (by decide)) rfl T.g_law_take T.F_law_take.kp T.b_law_take .nil pass0 (pa_cons (pv 1) (pa_cons pe_int pa_nil))) pe_int (nomark _)) (pw_and1 (pt_not (pt_val (pe_call0 G_law_full (hr.mono (by decide)) rfl T.g_law_full T.F_law_full.kp T.b_law_full .nil pass0))))))
        (pss_one (ps_ret pe_bl))
        pss_nil)
       (pss_one (ps_ret (pe_call G_law_told_parts (hr.mono (by decide)) rfl T.g_law_told_parts T.F_law_told_parts.kp T.b_law_told_parts .nil pass0 (pa_cons (pv 6) (pa_cons (pv 8) pa_nil)))))))))))))))))))), ?_⟩
  have sz : sizeLine = 16777216 := sizeLine_eq
  refine ⟨_, rfl, s0, xs, rfl, hs, h63, fun H1 p q s1 hp0 hq0 hpq dr1 => ?_⟩
  -- width
  refine ⟨by show 6 ≤ sizeLine; omega, fun B hB => ?_⟩
  have sB := same_new (o := .lst [V.int 4, .int 1, .int 2, .int 8, .int 12, .int 3]) hB
  have hB1 : upd H1 B (.lst [V.int 4, .int 1, .int 2, .int 8, .int 12, .int 3]) B = some (.lst [V.int 4, .int 1, .int 2, .int 8, .int 12, .int 3]) := upd_same
  have drB := dr1.news sB
  have Bp : B ≠ p := by obtain ⟨_, _, h1, _⟩ := dr1; exact (ne_of_none h1 hB).symm
  refine ⟨_, rfl, p, q, _, rfl, drB, hpq, by decide, fun H2 v2 v20 v21 dr2 f2 => ?_⟩
  obtain ⟨n, hn, n1, n12⟩ : ∃ n : Nat, atI [V.int 4, .int 1, .int 2, .int 8, .int 12, .int 3] v2 = some (.int (n : Nat)) ∧ 1 ≤ n ∧ n ≤ 12 := by
    have : v2 = 0 ∨ v2 = 1 ∨ v2 = 2 ∨ v2 = 3 ∨ v2 = 4 ∨ v2 = 5 := by omega
    rcases this with rfl | rfl | rfl | rfl | rfl | rfl
    · exact ⟨4, rfl, by omega, by omega⟩
    · exact ⟨1, rfl, by omega, by omega⟩
    · exact ⟨2, rfl, by omega, by omega⟩
    · exact ⟨8, rfl, by omega, by omega⟩
    · exact ⟨12, rfl, by omega, by omega⟩
    · exact ⟨3, rfl, by omega, by omega⟩
  refine ⟨B, _, _, _, rfl, rfl, SqL.of (f2 _ _ hB1 Bp), hn, ?_⟩
  -- unknowns
  refine ⟨_, rfl, p, q, _, rfl, dr2, hpq, by decide, fun H3 v3 v30 v31 dr3 f3 => ?_⟩
  refine ⟨_, _, rfl, rfl, ?_⟩
  obtain ⟨u, eu, u1, u3⟩ : ∃ u : Nat, (1 : Int) + v3 = (u : Nat) ∧ 1 ≤ u ∧ u ≤ 3 := ⟨(1 + v3).toNat, by omega, by omega, by omega⟩
  refine gNe (v' := V.int (u : Nat)) (congrArg V.int eu) ?_
  -- the rows
  refine ⟨_, rfl, _, rfl, _, rfl, _, rfl, p, q, _, rfl, dr3, hpq, by decide, fun H5 v5 v50 v51 dr5 f5 => ?_⟩
  obtain ⟨b5, rfl⟩ := Int.eq_ofNat_of_zero_le v50
  refine ⟨_, _, rfl, rfl, p, q, u, n, 3 + b5, false, rfl, dr5, hpq, n1, n12, u3, by omega, fun H6 R rs hR dr6 ra ro hlen => ?_⟩
  have Rp : R ≠ p := by obtain ⟨_, _, h1, _⟩ := dr5; exact (ne_of_none h1 hR).symm
  have Rq : R ≠ q := by obtain ⟨_, _, _, h1, _⟩ := dr5; exact (ne_of_none h1 hR).symm
  have lR := ra.at_
  clear ra
  -- turned round
  refine ⟨fun σ' H' => ∃ (v5 : Option V) (rs : List Part), σ' = [some (.ref s0), some (.ref p), some (.int (n : Nat)), some (.int (u : Nat)), some (.ref R), v5, none, none, none, none, none] ∧ Dr H' p q ∧ LAt H' R rs ∧ Rows n u false rs ∧ 5 ≤ rs.length ∧ rs.length ≤ 14, ?_, ?_⟩
  · refine ⟨_, rfl, p, q, _, rfl, dr6, hpq, by decide, fun H7 v7 v70 v71 dr7 f7 => ⟨rfl, _, rfl, ?_⟩⟩
    have lR7 := lR.take dr6 Rp f7
    by_cases h7 : v7 = 1
    · refine iteP (dT (by rw [h7])) ?_
      refine ⟨_, rfl, u, rfl, by omega, by omega, ?_⟩
      refine for_range (lo := 0) (n := ((u : Nat) : Int).toNat) (fun j σ' H8 => ∃ (v5 : Option V) (rs8 : List Part), σ' = [some (.ref s0), some (.ref p), some (.int (n : Nat)), some (.int (u : Nat)), some (.ref R), v5, none, none, none, none, none] ∧ Dr H8 p q ∧ LAt H8 R rs8 ∧ Rows n u false rs8 ∧ rs8.length = rs.length) ⟨none, rs, rfl, dr7, lR7, ro, rfl⟩ ?_ ?_
      · rintro j σ' H8 hj ⟨v5, rs8, rfl, dr8, lR8, ro8, hl8⟩
        rw [Int.toNat_natCast] at hj
        rw [Int.zero_add]
        obtain ⟨xs8, hX8, ex8, _⟩ := lR8.item
        refine ⟨_, rfl, _, _, rfl, rfl, _, rfl, _, _, rfl, rfl, by show 2 ≤ sizeLine; omega, fun t ht => ?_⟩
        have s9 := same_new (o := .tup [.str "get", .int ((u : Nat) - 1 - (j : Nat) : Int)]) ht
        have hX9 := s9 _ _ hX8
        refine ⟨_, rfl, _, rfl, R, _, _, j, rfl, rfl, hX9, ixN_nat (by omega), _, rs8.set j (.get ((u : Nat) - 1 - (j : Nat) : Int)), rfl, (dr8.news s9).upd Rp Rq, (lR8.news s9).set hX9 (by omega) rfl upd_same, rows_set ro8 (by omega) (by omega) u3, by rw [List.length_set]; exact hl8⟩
      · rintro σ' H8 ⟨v5, rs8, rfl, dr8, lR8, ro8, hl8⟩
        exact ⟨v5, rs8, rfl, dr8, lR8, ro8, by omega, by omega⟩
    · refine iteN (dF (by intro e; injection e with e; exact h7 e)) ?_
      exact ⟨none, rs, rfl, dr7, lR7, ro, by omega, by omega⟩
  clear lR ro hlen dr6
  rintro σ' H6 ⟨v5, rs, rfl, dr6, lR, ro, r5, r14⟩
  -- the edges
  refine ⟨fun σ' H' => ∃ (rs : List Part), σ' = [some (.ref s0), some (.ref p), some (.int (n : Nat)), some (.int (u : Nat)), some (.ref R), v5, none, none, none, none, none] ∧ Dr H' p q ∧ LAt H' R rs ∧ Rows n u false rs ∧ 5 ≤ rs.length ∧ rs.length < 60, ?_, ?_⟩
  · refine ⟨_, rfl, p, q, _, rfl, dr6, hpq, by decide, fun H7 v7 v70 v71 dr7 f7 => ⟨rfl, _, rfl, ?_⟩⟩
    have lR7 := lR.take dr6 Rp f7
    by_cases h7 : v7 = 2
    · refine iteP (dT (by rw [h7])) ?_
      refine ⟨_, rfl, _, rfl, _, rfl, p, q, R, n, u, rs, rfl, dr7, hpq, Rp, Rq, n1, n12, lR7, ro, by omega, by omega, fun H8 rs' dr8 lR8 ro8 hl8 _ _ => ?_⟩
      exact ⟨rs', rfl, dr8, lR8, ro8, by omega, by omega⟩
    · refine iteN (dF (by intro e; injection e with e; exact h7 e)) ?_
      exact ⟨rs, rfl, dr7, lR7, ro, by omega, by omega⟩
  clear lR ro r5 r14 dr6
  rintro σ' H7 ⟨rs, rfl, dr7, lR7, ro, r5, r60⟩
  -- pool, twin, parts
  refine ⟨_, rfl, fun a dxa ha hdxa hnea => ⟨a, dxa, n, rfl, upd_same, n1, n12, fun H8 l d hl hd _ hp8 f8 => ⟨rfl, ?_⟩⟩⟩
  obtain ⟨s8, hl, hd⟩ := mkFacts ha hdxa hl hd f8
  refine ⟨_, rfl, fun a2 dxa2 ha2 hdxa2 hnea2 => ⟨a2, dxa2, n, rfl, upd_same, n1, n12, fun H9 l2 d2 hl2 hd2 _ hp9 f9 => ⟨rfl, ?_⟩⟩⟩
  obtain ⟨s9, hl2, hd2⟩ := mkFacts ha2 hdxa2 hl2 hd2 f9
  refine ⟨Nat.zero_le _, fun L hL => ?_⟩
  have s10 := same_new (o := .lst []) hL
  have lL : LAt (upd H9 L (.lst [])) L [] := ⟨[], upd_same, rfl, fun i q e => by simp at e⟩
  obtain ⟨xsR, hXR, exR, _⟩ := lR7.item
  obtain ⟨_, _, hp7, hq7, _⟩ := id dr7
  obtain ⟨_, hll8, _⟩ := id hp8.lst
  have hdd8 := hp8.dic
  obtain ⟨_, hll9, _⟩ := id hp9.lst
  have hdd9 := hp9.dic
  have s910 := s9.trans s10
  have s710 := s8.trans s910
  have hL8 := s9.free hL
  have hL7 := s8.free hL8
  have hl27 := s8.free hl2
  have hd27 := s8.free hd2
  have Ll : L ≠ l := (ne_of_none hll8 hL8).symm
  have Ll2 : L ≠ l2 := (ne_of_none hll9 hL).symm
  have ll2 : l ≠ l2 := ne_of_none hll8 hl2
  have dd2 : d ≠ d2 := ne_of_none hdd8 hd2
  have Rl : R ≠ l := ne_of_none hXR hl
  have Rl2 : R ≠ l2 := ne_of_none hXR hl27
  have RL : R ≠ L := ne_of_none hXR hL7
  have Rd : R ≠ d := ne_of_none hXR hd
  have Rd2 : R ≠ d2 := ne_of_none hXR hd27
  refine ⟨_, rfl, _, rfl, _, rfl, _, rfl, _, rfl, a, l, d, a2, l2, d2, L, R, n, u, false, rs, rfl, hp8.news s910, hp9.news s10, lL, lR7.news s710, ro, n1, n12, r60, Ll, RL, Rl, Ll2, Rl2, ll2, dd2, fun H11 Pl hPl hp11 hq11 hL11 hP11 f11 => ?_⟩
  have pu := pu_all n1 n12 u3 ro (by omega) r60
  generalize (mAll n rs).1 = ps at *
  generalize (mAll n rs).2 = pl at *
  have back : ∀ b o, H7 b = some o → H11 b = some o := fun b o e => f11 b o (s710 _ _ e) (ne_of_none e hL7) (ne_of_none e hl) (ne_of_none e hd) (ne_of_none e hl27) (ne_of_none e hd27)
  have hPl7 := s710.free hPl
  have ne : Ne p q l d L R Pl := ⟨hpq, (ne_of_none hp7 hl).symm, (ne_of_none hq7 hl).symm, (ne_of_none hq7 hL7).symm, (ne_of_none hp7 hL7).symm, Rp, (ne_of_none hp7 hPl7).symm, Ll, Rl, RL, (ne_of_none (s910 _ _ hll8) hPl).symm, (ne_of_none upd_same hPl).symm⟩
  have st : LS T.C H11 n rs ps pl p q a l d L R Pl := ⟨dr7.news back, hp11, hL11, lR7.news back, hP11⟩
  have ple := pu.ple
  obtain ⟨xs11, hX11, ex11, _⟩ := st.rows.item
  -- as many places as rows
  refine ⟨_, rfl, Pl, _, rfl, SqL.of st.places, _, rfl, R, _, rfl, SqL.of hX11, rfl, _, rfl, iteN (neI (by rw [natL_len, pu.plen, ex11])) ?_⟩
  -- the parts told
  refine ⟨_, rfl, _, rfl, a, l, d, L, n, ps, rfl, st.pool, st.parts, by omega, fun H12 s12 => ⟨_, rfl, iteN (by decide) ?_⟩⟩
  refine ⟨_, rfl, _, rfl, a2, l2, d2, L, n, ps, rfl, hq11.news s12, hL11.news s12, by omega, fun H13 s13 => ⟨_, rfl, iteN (by decide) ?_⟩⟩
  have st13 := st.news (s12.trans s13)
  refine ⟨2, rfl, by decide, by decide, ?_⟩
  refine for_range (lo := 0) (n := (2 : Int).toNat) (fun j σ' H' => ∃ v10 : Option V, σ' = [some (.ref s0), some (.ref p), some (.int (n : Nat)), some (.int (u : Nat)), some (.ref R), v5, some (.ref a), some (.ref a2), some (.ref L), some (.ref Pl), v10] ∧ LS T.C H' n rs ps pl p q a l d L R Pl) ⟨none, rfl, st13⟩ ?_ ?_
  · rintro j σ' H14 hj ⟨v10, rfl, st14⟩
    refine ⟨_, rfl, _, rfl, _, rfl, _, rfl, _, rfl, _, rfl, p, q, a, l, d, L, R, Pl, n, u, rs, ps, pl, rfl, st14, ne, pu, fun H15 st15 f15 => ⟨_, rfl, iteN (by decide) ?_⟩⟩
    refine ⟨_, rfl, _, rfl, _, rfl, p, q, a, l, d, L, R, Pl, n, u, rs, ps, pl, rfl, st15, ne, pu, fun H16 st16 f16 => ⟨_, rfl, iteN (by decide) ?_⟩⟩
    exact ⟨_, rfl, st16⟩
  rintro σ' H14 ⟨v10, rfl, st14⟩
  -- filled
  refine ⟨_, rfl, _, rfl, _, rfl, _, rfl, _, rfl, _, rfl, _, rfl, p, q, a, l, d, L, R, Pl, n, u, rs, ps, pl, rfl, st14, ne, pu, fun H15 ps' st15 hps => ⟨_, rfl, iteN (by decide) ?_⟩⟩
  -- full
  refine ⟨_, rfl, p, q, _, rfl, st15.dr, hpq, by decide, fun H16 v16 v160 v161 dr16 f16 => ⟨rfl, _, rfl, ?_⟩⟩
  have st16 := st15.take ne dr16 f16
  by_cases h16 : v16 = 23
  · refine iteP (dT (by rw [h16])) ⟨rfl, fun H17 s17 => ⟨_, rfl, iteN (by decide) ?_⟩⟩
    have st17 := st16.news s17
    exact ⟨_, rfl, _, rfl, a, l, d, L, n, ps', rfl, st17.pool, st17.parts, by omega, fun H18 _ => k H18⟩
  · refine iteN (dF (by intro e; injection e with e; exact h16 e)) (iteN (by decide) ?_)
    exact ⟨_, rfl, _, rfl, a, l, d, L, n, ps', rfl, st16.pool, st16.parts, by omega, fun H18 _ => k H18⟩
end
end My

namespace My
open PySem L2
/-- an error of the class at S is what «except S» names -/
theorem exm_own {K : PySem.W.Frag} {S : Addr} (h1 : PySem.W.subIn K (.ref S) (.type "BaseException") = some true) (h2 : PySem.W.isClsIn K S = true) (h3 : PySem.W.typeIn K (.ref S) = some (.type "type")) (h4 : PySem.W.subIn K (.ref S) (.ref S) = some true) :
    PySem.W.exmOne K (.ref S) (.ref S) = some true := by
  have e1 : (PySem.W.subIn K (.ref S) (.type "BaseException") == some true) = true := by rw [h1] <;> rfl
  have e2 : ((PySem.W.clsIn K S).isSome && PySem.W.typeIn K (.ref S) == some (.type "type")) = true := by
    have h2' : (PySem.W.clsIn K S).isSome = true := h2
    rw [h2', h3] <;> rfl
  show (if (PySem.W.subIn K (.ref S) (.type "BaseException") == some true) = true then (if ((PySem.W.clsIn K S).isSome && PySem.W.typeIn K (.ref S) == some (.type "type")) = true then PySem.W.subIn K (.ref S) (.ref S) else none) else none) = some true
  rw [if_pos e1, if_pos e2]
  exact h4
theorem oexE_of {K : PySem.W.Frag} {C : Addr} (q : PySem.W.excInitIn K C exB "Exception.__new__" = true) (hd : PySem.W.hasDictIn K C = true) (sa : PySem.W.findIn K (.ref C) "__setattr__" = some (some (.builtin "object.__setattr__"))) (ex : PySem.W.subIn K (.ref C) (.type "BaseException") = some true)
    (ty : PySem.W.typeIn K (.ref C) = some (.type "type")) (kp : PySem.W.keepIn K (.ref C) = true) : OexE K C := by
  refine ⟨?_, sa, ex, ty, kp⟩
  unfold PySem.W.excInitIn at q
  split at q
  · rename_i dd cd sl ho
    split at q
    · rename_i C' bm k0 k1 k2 k3 n k5 hm hs
      simp only [Bool.and_eq_true, beq_iff_eq, Bool.not_eq_true'] at q
      obtain ⟨⟨⟨rfl, rfl⟩, hdel⟩, ht⟩ := q
      have hD : cd.hasDict = true := by
        unfold PySem.W.hasDictIn PySem.W.clsIn at hd
        rw [ho] at hd
        exact hd
      obtain ⟨nm, bs, mro, ns, qn, hd', sn, sub, ab, col, del⟩ := cd
      dsimp only at hm hdel hD
      subst hm hdel hD
      have hsl : sl = #[k0, k1, k2, k3, some (.builtin "Exception.__new__"), k5] := by
        obtain ⟨l⟩ := sl
        simp only at hs
        rw [hs]
      subst hsl
      exact ⟨nm, qn, ns, bs, bm, sn, sub, ab, col, dd, k0, k1, k2, k3, k5, ho, ht⟩
    · cases q
  · cases q
theorem tup_kit {K : PySem.W.Frag} {a n : Nat} {od : Option Addr} {sl : Array (Option Value)} {its : Array Value} {xs : List V} (lk : K.lookup a = some ⟨.type "tuple", od, .seq its n, sl⟩) (z : its.size ≤ sizeLine) (v : Vals xs its.toList) : ∀ H, SqT K H a xs :=
  fun H => .inr ⟨_, its, n, lk, rfl, rfl, z, v⟩
theorem mk_TooMany_init {K : PySem.W.Frag} {f : Addr} {od an : Option Addr} {sl : Array (Option Value)} {oc kV dc pm cd ct : Value} (l : K.lookup f = some ⟨oc, od, .func (PySem.W.fnOf "__init__" "TooMany.__init__" (defArgs s_TooMany_init) (defBody s_TooMany_init) (defScope s_TooMany_init) .none kV dc pm an cd ct), sl⟩) (c : PySem.W.codeIn K cd "TooMany.__init__" = true) (k : PySem.W.keepIn K (.ref f) = true) :
    ∃ fd : FuncData, Fun K "__init__" "TooMany.__init__" s_TooMany_init f fd ∧ Binds K fd ["self", "name"] [] := ⟨_, fun_mk (st := s_TooMany_init) l c k, (fun_mk (st := s_TooMany_init) l c k).binds (ps := ["self", "name"]) fun _ _ _ _ _ _ us hl => match us, hl with | [_, _], _ => rfl⟩
theorem mk_op_word {K : PySem.W.Frag} {f : Addr} {od an : Option Addr} {sl : Array (Option Value)} {oc kV dc pm cd ct : Value} (l : K.lookup f = some ⟨oc, od, .func (PySem.W.fnOf "op_word" "op_word" (defArgs s_op_word) (defBody s_op_word) (defScope s_op_word) .none kV dc pm an cd ct), sl⟩) (c : PySem.W.codeIn K cd "op_word" = true) (k : PySem.W.keepIn K (.ref f) = true) :
    ∃ fd : FuncData, Fun K "op_word" "op_word" s_op_word f fd ∧ Binds K fd ["name", "one", "other", "width"] [] := ⟨_, fun_mk (st := s_op_word) l c k, (fun_mk (st := s_op_word) l c k).binds (ps := ["name", "one", "other", "width"]) fun _ _ _ _ _ _ us hl => match us, hl with | [_, _, _, _], _ => rfl⟩
theorem mk_shortened {K : PySem.W.Frag} {f : Addr} {od an : Option Addr} {sl : Array (Option Value)} {oc kV dc pm cd ct : Value} (l : K.lookup f = some ⟨oc, od, .func (PySem.W.fnOf "shortened" "shortened" (defArgs s_shortened) (defBody s_shortened) (defScope s_shortened) .none kV dc pm an cd ct), sl⟩) (c : PySem.W.codeIn K cd "shortened" = true) (k : PySem.W.keepIn K (.ref f) = true) :
    ∃ fd : FuncData, Fun K "shortened" "shortened" s_shortened f fd ∧ Binds K fd ["name", "first", "second", "equal", "most"] [] := ⟨_, fun_mk (st := s_shortened) l c k, (fun_mk (st := s_shortened) l c k).binds (ps := ["name", "first", "second", "equal", "most"]) fun _ _ _ _ _ _ us hl => match us, hl with | [_, _, _, _, _], _ => rfl⟩
theorem mk_shortened_and {K : PySem.W.Frag} {f : Addr} {od an : Option Addr} {sl : Array (Option Value)} {oc kV dc pm cd ct : Value} (l : K.lookup f = some ⟨oc, od, .func (PySem.W.fnOf "shortened_and" "shortened_and" (defArgs s_shortened_and) (defBody s_shortened_and) (defScope s_shortened_and) .none kV dc pm an cd ct), sl⟩) (c : PySem.W.codeIn K cd "shortened_and" = true) (k : PySem.W.keepIn K (.ref f) = true) :
    ∃ fd : FuncData, Fun K "shortened_and" "shortened_and" s_shortened_and f fd ∧ Binds K fd ["first", "second", "equal", "most"] [] := ⟨_, fun_mk (st := s_shortened_and) l c k, (fun_mk (st := s_shortened_and) l c k).binds (ps := ["first", "second", "equal", "most"]) fun _ _ _ _ _ _ us hl => match us, hl with | [_, _, _, _], _ => rfl⟩
theorem mk_shortened_twice {K : PySem.W.Frag} {f : Addr} {od an : Option Addr} {sl : Array (Option Value)} {oc kV dc pm cd ct : Value} (l : K.lookup f = some ⟨oc, od, .func (PySem.W.fnOf "shortened_twice" "shortened_twice" (defArgs s_shortened_twice) (defBody s_shortened_twice) (defScope s_shortened_twice) .none kV dc pm an cd ct), sl⟩) (c : PySem.W.codeIn K cd "shortened_twice" = true) (k : PySem.W.keepIn K (.ref f) = true) :
    ∃ fd : FuncData, Fun K "shortened_twice" "shortened_twice" s_shortened_twice f fd ∧ Binds K fd ["name"] [] := ⟨_, fun_mk (st := s_shortened_twice) l c k, (fun_mk (st := s_shortened_twice) l c k).binds (ps := ["name"]) fun _ _ _ _ _ _ us hl => match us, hl with | [_], _ => rfl⟩
theorem mk_is_int {K : PySem.W.Frag} {f : Addr} {od an : Option Addr} {sl : Array (Option Value)} {oc kV dc pm cd ct : Value} (l : K.lookup f = some ⟨oc, od, .func (PySem.W.fnOf "is_int" "is_int" (defArgs s_is_int) (defBody s_is_int) (defScope s_is_int) .none kV dc pm an cd ct), sl⟩) (c : PySem.W.codeIn K cd "is_int" = true) (k : PySem.W.keepIn K (.ref f) = true) :
    ∃ fd : FuncData, Fun K "is_int" "is_int" s_is_int f fd ∧ Binds K fd ["value"] [] := ⟨_, fun_mk (st := s_is_int) l c k, (fun_mk (st := s_is_int) l c k).binds (ps := ["value"]) fun _ _ _ _ _ _ us hl => match us, hl with | [_], _ => rfl⟩
theorem mk_is_row {K : PySem.W.Frag} {f : Addr} {od an : Option Addr} {sl : Array (Option Value)} {oc kV dc pm cd ct : Value} (l : K.lookup f = some ⟨oc, od, .func (PySem.W.fnOf "is_row" "is_row" (defArgs s_is_row) (defBody s_is_row) (defScope s_is_row) .none kV dc pm an cd ct), sl⟩) (c : PySem.W.codeIn K cd "is_row" = true) (k : PySem.W.keepIn K (.ref f) = true) :
    ∃ fd : FuncData, Fun K "is_row" "is_row" s_is_row f fd ∧ Binds K fd ["value"] [] := ⟨_, fun_mk (st := s_is_row) l c k, (fun_mk (st := s_is_row) l c k).binds (ps := ["value"]) fun _ _ _ _ _ _ us hl => match us, hl with | [_], _ => rfl⟩
theorem mk_check_int {K : PySem.W.Frag} {f : Addr} {od an : Option Addr} {sl : Array (Option Value)} {oc kV dc pm cd ct : Value} (l : K.lookup f = some ⟨oc, od, .func (PySem.W.fnOf "check_int" "check_int" (defArgs s_check_int) (defBody s_check_int) (defScope s_check_int) .none kV dc pm an cd ct), sl⟩) (c : PySem.W.codeIn K cd "check_int" = true) (k : PySem.W.keepIn K (.ref f) = true) :
    ∃ fd : FuncData, Fun K "check_int" "check_int" s_check_int f fd ∧ Binds K fd ["value", "low", "high", "name"] [] := ⟨_, fun_mk (st := s_check_int) l c k, (fun_mk (st := s_check_int) l c k).binds (ps := ["value", "low", "high", "name"]) fun _ _ _ _ _ _ us hl => match us, hl with | [_, _, _, _], _ => rfl⟩
theorem mk_ones {K : PySem.W.Frag} {f : Addr} {od an : Option Addr} {sl : Array (Option Value)} {oc kV dc pm cd ct : Value} (l : K.lookup f = some ⟨oc, od, .func (PySem.W.fnOf "ones" "ones" (defArgs s_ones) (defBody s_ones) (defScope s_ones) .none kV dc pm an cd ct), sl⟩) (c : PySem.W.codeIn K cd "ones" = true) (k : PySem.W.keepIn K (.ref f) = true) :
    ∃ fd : FuncData, Fun K "ones" "ones" s_ones f fd ∧ Binds K fd ["width"] [] := ⟨_, fun_mk (st := s_ones) l c k, (fun_mk (st := s_ones) l c k).binds (ps := ["width"]) fun _ _ _ _ _ _ us hl => match us, hl with | [_], _ => rfl⟩
theorem mk_put_in {K : PySem.W.Frag} {f : Addr} {od an : Option Addr} {sl : Array (Option Value)} {oc kV dc pm cd ct : Value} (l : K.lookup f = some ⟨oc, od, .func (PySem.W.fnOf "put_in" "put_in" (defArgs s_put_in) (defBody s_put_in) (defScope s_put_in) .none kV dc pm an cd ct), sl⟩) (c : PySem.W.codeIn K cd "put_in" = true) (k : PySem.W.keepIn K (.ref f) = true) :
    ∃ fd : FuncData, Fun K "put_in" "put_in" s_put_in f fd ∧ Binds K fd ["pool", "part", "parts"] [] := ⟨_, fun_mk (st := s_put_in) l c k, (fun_mk (st := s_put_in) l c k).binds (ps := ["pool", "part", "parts"]) fun _ _ _ _ _ _ us hl => match us, hl with | [_, _, _], _ => rfl⟩
theorem mk_p_init {K : PySem.W.Frag} {f : Addr} {od an : Option Addr} {sl : Array (Option Value)} {oc kV dc pm cd ct : Value} (l : K.lookup f = some ⟨oc, od, .func (PySem.W.fnOf "__init__" "Pool.__init__" (defArgs s_p_init) (defBody s_p_init) (defScope s_p_init) .none kV dc pm an cd ct), sl⟩) (c : PySem.W.codeIn K cd "Pool.__init__" = true) (k : PySem.W.keepIn K (.ref f) = true) :
    ∃ fd : FuncData, Fun K "__init__" "Pool.__init__" s_p_init f fd ∧ Binds K fd ["self", "width"] [] := ⟨_, fun_mk (st := s_p_init) l c k, (fun_mk (st := s_p_init) l c k).binds (ps := ["self", "width"]) fun _ _ _ _ _ _ us hl => match us, hl with | [_, _], _ => rfl⟩
theorem mk_p_len {K : PySem.W.Frag} {f : Addr} {od an : Option Addr} {sl : Array (Option Value)} {oc kV dc pm cd ct : Value} (l : K.lookup f = some ⟨oc, od, .func (PySem.W.fnOf "__len__" "Pool.__len__" (defArgs s_p_len) (defBody s_p_len) (defScope s_p_len) .none kV dc pm an cd ct), sl⟩) (c : PySem.W.codeIn K cd "Pool.__len__" = true) (k : PySem.W.keepIn K (.ref f) = true) :
    ∃ fd : FuncData, Fun K "__len__" "Pool.__len__" s_p_len f fd ∧ Binds K fd ["self"] [] := ⟨_, fun_mk (st := s_p_len) l c k, (fun_mk (st := s_p_len) l c k).binds (ps := ["self"]) fun _ _ _ _ _ _ us hl => match us, hl with | [_], _ => rfl⟩
theorem mk_p_iter {K : PySem.W.Frag} {f : Addr} {od an : Option Addr} {sl : Array (Option Value)} {oc kV dc pm cd ct : Value} (l : K.lookup f = some ⟨oc, od, .func (PySem.W.fnOf "__iter__" "Pool.__iter__" (defArgs s_p_iter) (defBody s_p_iter) (defScope s_p_iter) .none kV dc pm an cd ct), sl⟩) (c : PySem.W.codeIn K cd "Pool.__iter__" = true) (k : PySem.W.keepIn K (.ref f) = true) :
    ∃ fd : FuncData, Fun K "__iter__" "Pool.__iter__" s_p_iter f fd ∧ Binds K fd ["self"] [] := ⟨_, fun_mk (st := s_p_iter) l c k, (fun_mk (st := s_p_iter) l c k).binds (ps := ["self"]) fun _ _ _ _ _ _ us hl => match us, hl with | [_], _ => rfl⟩
theorem mk_p_check_part {K : PySem.W.Frag} {f : Addr} {od an : Option Addr} {sl : Array (Option Value)} {oc kV dc pm cd ct : Value} (l : K.lookup f = some ⟨oc, od, .func (PySem.W.fnOf "check_part" "Pool.check_part" (defArgs s_p_check_part) (defBody s_p_check_part) (defScope s_p_check_part) .none kV dc pm an cd ct), sl⟩) (c : PySem.W.codeIn K cd "Pool.check_part" = true) (k : PySem.W.keepIn K (.ref f) = true) :
    ∃ fd : FuncData, Fun K "check_part" "Pool.check_part" s_p_check_part f fd ∧ Binds K fd ["self", "number"] [] := ⟨_, fun_mk (st := s_p_check_part) l c k, (fun_mk (st := s_p_check_part) l c k).binds (ps := ["self", "number"]) fun _ _ _ _ _ _ us hl => match us, hl with | [_, _], _ => rfl⟩
theorem mk_p_check_parts {K : PySem.W.Frag} {f : Addr} {od an : Option Addr} {sl : Array (Option Value)} {oc kV dc pm cd ct : Value} (l : K.lookup f = some ⟨oc, od, .func (PySem.W.fnOf "check_parts" "Pool.check_parts" (defArgs s_p_check_parts) (defBody s_p_check_parts) (defScope s_p_check_parts) .none kV dc pm an cd ct), sl⟩) (c : PySem.W.codeIn K cd "Pool.check_parts" = true) (k : PySem.W.keepIn K (.ref f) = true) :
    ∃ fd : FuncData, Fun K "check_parts" "Pool.check_parts" s_p_check_parts f fd ∧ Binds K fd ["self", "numbers"] [] := ⟨_, fun_mk (st := s_p_check_parts) l c k, (fun_mk (st := s_p_check_parts) l c k).binds (ps := ["self", "numbers"]) fun _ _ _ _ _ _ us hl => match us, hl with | [_, _], _ => rfl⟩
theorem mk_p_num {K : PySem.W.Frag} {f : Addr} {od an : Option Addr} {sl : Array (Option Value)} {oc kV dc pm cd ct : Value} (l : K.lookup f = some ⟨oc, od, .func (PySem.W.fnOf "num" "Pool.num" (defArgs s_p_num) (defBody s_p_num) (defScope s_p_num) .none kV dc pm an cd ct), sl⟩) (c : PySem.W.codeIn K cd "Pool.num" = true) (k : PySem.W.keepIn K (.ref f) = true) :
    ∃ fd : FuncData, Fun K "num" "Pool.num" s_p_num f fd ∧ Binds K fd ["self", "value"] [] := ⟨_, fun_mk (st := s_p_num) l c k, (fun_mk (st := s_p_num) l c k).binds (ps := ["self", "value"]) fun _ _ _ _ _ _ us hl => match us, hl with | [_, _], _ => rfl⟩
theorem mk_p_unknown {K : PySem.W.Frag} {f : Addr} {od an : Option Addr} {sl : Array (Option Value)} {oc kV dc pm cd ct : Value} (l : K.lookup f = some ⟨oc, od, .func (PySem.W.fnOf "unknown" "Pool.unknown" (defArgs s_p_unknown) (defBody s_p_unknown) (defScope s_p_unknown) .none kV dc pm an cd ct), sl⟩) (c : PySem.W.codeIn K cd "Pool.unknown" = true) (k : PySem.W.keepIn K (.ref f) = true) :
    ∃ fd : FuncData, Fun K "unknown" "Pool.unknown" s_p_unknown f fd ∧ Binds K fd ["self", "number"] [] := ⟨_, fun_mk (st := s_p_unknown) l c k, (fun_mk (st := s_p_unknown) l c k).binds (ps := ["self", "number"]) fun _ _ _ _ _ _ us hl => match us, hl with | [_, _], _ => rfl⟩
theorem mk_p_apply {K : PySem.W.Frag} {f : Addr} {od an : Option Addr} {sl : Array (Option Value)} {oc kV dc pm cd ct : Value} (l : K.lookup f = some ⟨oc, od, .func (PySem.W.fnOf "apply" "Pool.apply" (defArgs s_p_apply) (defBody s_p_apply) (defScope s_p_apply) .none kV dc pm an cd ct), sl⟩) (c : PySem.W.codeIn K cd "Pool.apply" = true) (k : PySem.W.keepIn K (.ref f) = true) :
    ∃ fd : FuncData, Fun K "apply" "Pool.apply" s_p_apply f fd ∧ Binds K fd ["self", "name", "one", "other"] [] := ⟨_, fun_mk (st := s_p_apply) l c k, (fun_mk (st := s_p_apply) l c k).binds (ps := ["self", "name", "one", "other"]) fun _ _ _ _ _ _ us hl => match us, hl with | [_, _, _, _], _ => rfl⟩
theorem mk_p_part {K : PySem.W.Frag} {f : Addr} {od an : Option Addr} {sl : Array (Option Value)} {oc kV dc pm cd ct : Value} (l : K.lookup f = some ⟨oc, od, .func (PySem.W.fnOf "part" "Pool.part" (defArgs s_p_part) (defBody s_p_part) (defScope s_p_part) .none kV dc pm an cd ct), sl⟩) (c : PySem.W.codeIn K cd "Pool.part" = true) (k : PySem.W.keepIn K (.ref f) = true) :
    ∃ fd : FuncData, Fun K "part" "Pool.part" s_p_part f fd ∧ Binds K fd ["self", "number"] [] := ⟨_, fun_mk (st := s_p_part) l c k, (fun_mk (st := s_p_part) l c k).binds (ps := ["self", "number"]) fun _ _ _ _ _ _ us hl => match us, hl with | [_, _], _ => rfl⟩
theorem mk_p_value {K : PySem.W.Frag} {f : Addr} {od an : Option Addr} {sl : Array (Option Value)} {oc kV dc pm cd ct : Value} (l : K.lookup f = some ⟨oc, od, .func (PySem.W.fnOf "value" "Pool.value" (defArgs s_p_value) (defBody s_p_value) (defScope s_p_value) .none kV dc pm an cd ct), sl⟩) (c : PySem.W.codeIn K cd "Pool.value" = true) (k : PySem.W.keepIn K (.ref f) = true) :
    ∃ fd : FuncData, Fun K "value" "Pool.value" s_p_value f fd ∧ Binds K fd ["self", "number", "words"] [] := ⟨_, fun_mk (st := s_p_value) l c k, (fun_mk (st := s_p_value) l c k).binds (ps := ["self", "number", "words"]) fun _ _ _ _ _ _ us hl => match us, hl with | [_, _, _], _ => rfl⟩
theorem mk_p_reached {K : PySem.W.Frag} {f : Addr} {od an : Option Addr} {sl : Array (Option Value)} {oc kV dc pm cd ct : Value} (l : K.lookup f = some ⟨oc, od, .func (PySem.W.fnOf "reached" "Pool.reached" (defArgs s_p_reached) (defBody s_p_reached) (defScope s_p_reached) .none kV dc pm an cd ct), sl⟩) (c : PySem.W.codeIn K cd "Pool.reached" = true) (k : PySem.W.keepIn K (.ref f) = true) :
    ∃ fd : FuncData, Fun K "reached" "Pool.reached" s_p_reached f fd ∧ Binds K fd ["self", "number"] [] := ⟨_, fun_mk (st := s_p_reached) l c k, (fun_mk (st := s_p_reached) l c k).binds (ps := ["self", "number"]) fun _ _ _ _ _ _ us hl => match us, hl with | [_, _], _ => rfl⟩
theorem mk_p_reached_by {K : PySem.W.Frag} {f : Addr} {od an : Option Addr} {sl : Array (Option Value)} {oc kV dc pm cd ct : Value} (l : K.lookup f = some ⟨oc, od, .func (PySem.W.fnOf "reached_by" "Pool.reached_by" (defArgs s_p_reached_by) (defBody s_p_reached_by) (defScope s_p_reached_by) .none kV dc pm an cd ct), sl⟩) (c : PySem.W.codeIn K cd "Pool.reached_by" = true) (k : PySem.W.keepIn K (.ref f) = true) :
    ∃ fd : FuncData, Fun K "reached_by" "Pool.reached_by" s_p_reached_by f fd ∧ Binds K fd ["self", "numbers"] [] := ⟨_, fun_mk (st := s_p_reached_by) l c k, (fun_mk (st := s_p_reached_by) l c k).binds (ps := ["self", "numbers"]) fun _ _ _ _ _ _ us hl => match us, hl with | [_, _], _ => rfl⟩
theorem mk_p_unknowns {K : PySem.W.Frag} {f : Addr} {od an : Option Addr} {sl : Array (Option Value)} {oc kV dc pm cd ct : Value} (l : K.lookup f = some ⟨oc, od, .func (PySem.W.fnOf "unknowns" "Pool.unknowns" (defArgs s_p_unknowns) (defBody s_p_unknowns) (defScope s_p_unknowns) .none kV dc pm an cd ct), sl⟩) (c : PySem.W.codeIn K cd "Pool.unknowns" = true) (k : PySem.W.keepIn K (.ref f) = true) :
    ∃ fd : FuncData, Fun K "unknowns" "Pool.unknowns" s_p_unknowns f fd ∧ Binds K fd ["self", "numbers"] [] := ⟨_, fun_mk (st := s_p_unknowns) l c k, (fun_mk (st := s_p_unknowns) l c k).binds (ps := ["self", "numbers"]) fun _ _ _ _ _ _ us hl => match us, hl with | [_, _], _ => rfl⟩
theorem mk_p_made {K : PySem.W.Frag} {f : Addr} {od an : Option Addr} {sl : Array (Option Value)} {oc kV dc pm cd ct : Value} (l : K.lookup f = some ⟨oc, od, .func (PySem.W.fnOf "_made" "Pool._made" (defArgs s_p_made) (defBody s_p_made) (defScope s_p_made) .none kV dc pm an cd ct), sl⟩) (c : PySem.W.codeIn K cd "Pool._made" = true) (k : PySem.W.keepIn K (.ref f) = true) :
    ∃ fd : FuncData, Fun K "_made" "Pool._made" s_p_made f fd ∧ Binds K fd ["self", "part"] [] := ⟨_, fun_mk (st := s_p_made) l c k, (fun_mk (st := s_p_made) l c k).binds (ps := ["self", "part"]) fun _ _ _ _ _ _ us hl => match us, hl with | [_, _], _ => rfl⟩
theorem mk_p_word {K : PySem.W.Frag} {f : Addr} {od an : Option Addr} {sl : Array (Option Value)} {oc kV dc pm cd ct : Value} (l : K.lookup f = some ⟨oc, od, .func (PySem.W.fnOf "_word" "Pool._word" (defArgs s_p_word) (defBody s_p_word) (defScope s_p_word) .none kV dc pm an cd ct), sl⟩) (c : PySem.W.codeIn K cd "Pool._word" = true) (k : PySem.W.keepIn K (.ref f) = true) :
    ∃ fd : FuncData, Fun K "_word" "Pool._word" s_p_word f fd ∧ Binds K fd ["self", "number"] [] := ⟨_, fun_mk (st := s_p_word) l c k, (fun_mk (st := s_p_word) l c k).binds (ps := ["self", "number"]) fun _ _ _ _ _ _ us hl => match us, hl with | [_, _], _ => rfl⟩
theorem mk_p_gets {K : PySem.W.Frag} {f : Addr} {od an : Option Addr} {sl : Array (Option Value)} {oc kV dc pm cd ct : Value} (l : K.lookup f = some ⟨oc, od, .func (PySem.W.fnOf "_gets" "Pool._gets" (defArgs s_p_gets) (defBody s_p_gets) (defScope s_p_gets) .none kV dc pm an cd ct), sl⟩) (c : PySem.W.codeIn K cd "Pool._gets" = true) (k : PySem.W.keepIn K (.ref f) = true) :
    ∃ fd : FuncData, Fun K "_gets" "Pool._gets" s_p_gets f fd ∧ Binds K fd ["self", "numbers"] [] := ⟨_, fun_mk (st := s_p_gets) l c k, (fun_mk (st := s_p_gets) l c k).binds (ps := ["self", "numbers"]) fun _ _ _ _ _ _ us hl => match us, hl with | [_, _], _ => rfl⟩
theorem mk_law_draws {K : PySem.W.Frag} {f : Addr} {od an : Option Addr} {sl : Array (Option Value)} {oc kV dc pm cd ct : Value} (l : K.lookup f = some ⟨oc, od, .func (PySem.W.fnOf "_law_draws" "_law_draws" (defArgs s_law_draws) (defBody s_law_draws) (defScope s_law_draws) .none kV dc pm an cd ct), sl⟩) (c : PySem.W.codeIn K cd "_law_draws" = true) (k : PySem.W.keepIn K (.ref f) = true) :
    ∃ fd : FuncData, Fun K "_law_draws" "_law_draws" s_law_draws f fd ∧ Binds K fd ["_law_script"] [] := ⟨_, fun_mk (st := s_law_draws) l c k, (fun_mk (st := s_law_draws) l c k).binds (ps := ["_law_script"]) fun _ _ _ _ _ _ us hl => match us, hl with | [_], _ => rfl⟩
theorem mk_law_take {K : PySem.W.Frag} {f : Addr} {od an : Option Addr} {sl : Array (Option Value)} {oc kV dc pm cd ct : Value} (l : K.lookup f = some ⟨oc, od, .func (PySem.W.fnOf "_law_take" "_law_take" (defArgs s_law_take) (defBody s_law_take) (defScope s_law_take) .none kV dc pm an cd ct), sl⟩) (c : PySem.W.codeIn K cd "_law_take" = true) (k : PySem.W.keepIn K (.ref f) = true) :
    ∃ fd : FuncData, Fun K "_law_take" "_law_take" s_law_take f fd ∧ Binds K fd ["_law_draws_here", "_law_many"] [] := ⟨_, fun_mk (st := s_law_take) l c k, (fun_mk (st := s_law_take) l c k).binds (ps := ["_law_draws_here", "_law_many"]) fun _ _ _ _ _ _ us hl => match us, hl with | [_, _], _ => rfl⟩
theorem mk_law_word {K : PySem.W.Frag} {f : Addr} {od an : Option Addr} {sl : Array (Option Value)} {oc kV dc pm cd ct : Value} (l : K.lookup f = some ⟨oc, od, .func (PySem.W.fnOf "_law_word" "_law_word" (defArgs s_law_word) (defBody s_law_word) (defScope s_law_word) .none kV dc pm an cd ct), sl⟩) (c : PySem.W.codeIn K cd "_law_word" = true) (k : PySem.W.keepIn K (.ref f) = true) :
    ∃ fd : FuncData, Fun K "_law_word" "_law_word" s_law_word f fd ∧ Binds K fd ["_law_draws_here", "_law_width"] [] := ⟨_, fun_mk (st := s_law_word) l c k, (fun_mk (st := s_law_word) l c k).binds (ps := ["_law_draws_here", "_law_width"]) fun _ _ _ _ _ _ us hl => match us, hl with | [_, _], _ => rfl⟩
theorem mk_law_is_int {K : PySem.W.Frag} {f : Addr} {od an : Option Addr} {sl : Array (Option Value)} {oc kV dc pm cd ct : Value} (l : K.lookup f = some ⟨oc, od, .func (PySem.W.fnOf "_law_is_int" "_law_is_int" (defArgs s_law_is_int) (defBody s_law_is_int) (defScope s_law_is_int) .none kV dc pm an cd ct), sl⟩) (c : PySem.W.codeIn K cd "_law_is_int" = true) (k : PySem.W.keepIn K (.ref f) = true) :
    ∃ fd : FuncData, Fun K "_law_is_int" "_law_is_int" s_law_is_int f fd ∧ Binds K fd ["_law_thing"] [] := ⟨_, fun_mk (st := s_law_is_int) l c k, (fun_mk (st := s_law_is_int) l c k).binds (ps := ["_law_thing"]) fun _ _ _ _ _ _ us hl => match us, hl with | [_], _ => rfl⟩
theorem mk_law_op {K : PySem.W.Frag} {f : Addr} {od an : Option Addr} {sl : Array (Option Value)} {oc kV dc pm cd ct : Value} (l : K.lookup f = some ⟨oc, od, .func (PySem.W.fnOf "_law_op" "_law_op" (defArgs s_law_op) (defBody s_law_op) (defScope s_law_op) .none kV dc pm an cd ct), sl⟩) (c : PySem.W.codeIn K cd "_law_op" = true) (k : PySem.W.keepIn K (.ref f) = true) :
    ∃ fd : FuncData, Fun K "_law_op" "_law_op" s_law_op f fd ∧ Binds K fd ["_law_name", "_law_one", "_law_other", "_law_width"] [] := ⟨_, fun_mk (st := s_law_op) l c k, (fun_mk (st := s_law_op) l c k).binds (ps := ["_law_name", "_law_one", "_law_other", "_law_width"]) fun _ _ _ _ _ _ us hl => match us, hl with | [_, _, _, _], _ => rfl⟩
theorem mk_law_ops {K : PySem.W.Frag} {f : Addr} {od an : Option Addr} {sl : Array (Option Value)} {oc kV dc pm cd ct : Value} (l : K.lookup f = some ⟨oc, od, .func (PySem.W.fnOf "_law_ops" "_law_ops" (defArgs s_law_ops) (defBody s_law_ops) (defScope s_law_ops) .none kV dc pm an cd ct), sl⟩) (c : PySem.W.codeIn K cd "_law_ops" = true) (k : PySem.W.keepIn K (.ref f) = true) :
    ∃ fd : FuncData, Fun K "_law_ops" "_law_ops" s_law_ops f fd ∧ Binds K fd [] [] := ⟨_, fun_mk (st := s_law_ops) l c k, (fun_mk (st := s_law_ops) l c k).binds (ps := []) fun _ _ _ _ _ _ us hl => match us, hl with | [], _ => rfl⟩
theorem mk_law_term_rows {K : PySem.W.Frag} {f : Addr} {od an : Option Addr} {sl : Array (Option Value)} {oc kV dc pm cd ct : Value} (l : K.lookup f = some ⟨oc, od, .func (PySem.W.fnOf "_law_term_rows" "_law_term_rows" (defArgs s_law_term_rows) (defBody s_law_term_rows) (defScope s_law_term_rows) .none kV dc pm an cd ct), sl⟩) (c : PySem.W.codeIn K cd "_law_term_rows" = true) (k : PySem.W.keepIn K (.ref f) = true) :
    ∃ fd : FuncData, Fun K "_law_term_rows" "_law_term_rows" s_law_term_rows f fd ∧ Binds K fd ["_law_draws_here", "_law_unknowns", "_law_width", "_law_many", "_law_plain"] [] := ⟨_, fun_mk (st := s_law_term_rows) l c k, (fun_mk (st := s_law_term_rows) l c k).binds (ps := ["_law_draws_here", "_law_unknowns", "_law_width", "_law_many", "_law_plain"]) fun _ _ _ _ _ _ us hl => match us, hl with | [_, _, _, _, _], _ => rfl⟩
theorem mk_law_row_words {K : PySem.W.Frag} {f : Addr} {od an : Option Addr} {sl : Array (Option Value)} {oc kV dc pm cd ct : Value} (l : K.lookup f = some ⟨oc, od, .func (PySem.W.fnOf "_law_row_words" "_law_row_words" (defArgs s_law_row_words) (defBody s_law_row_words) (defScope s_law_row_words) .none kV dc pm an cd ct), sl⟩) (c : PySem.W.codeIn K cd "_law_row_words" = true) (k : PySem.W.keepIn K (.ref f) = true) :
    ∃ fd : FuncData, Fun K "_law_row_words" "_law_row_words" s_law_row_words f fd ∧ Binds K fd ["_law_rows", "_law_words", "_law_width"] [] := ⟨_, fun_mk (st := s_law_row_words) l c k, (fun_mk (st := s_law_row_words) l c k).binds (ps := ["_law_rows", "_law_words", "_law_width"]) fun _ _ _ _ _ _ us hl => match us, hl with | [_, _, _], _ => rfl⟩
theorem mk_law_keep {K : PySem.W.Frag} {f : Addr} {od an : Option Addr} {sl : Array (Option Value)} {oc kV dc pm cd ct : Value} (l : K.lookup f = some ⟨oc, od, .func (PySem.W.fnOf "_law_keep" "_law_keep" (defArgs s_law_keep) (defBody s_law_keep) (defScope s_law_keep) .none kV dc pm an cd ct), sl⟩) (c : PySem.W.codeIn K cd "_law_keep" = true) (k : PySem.W.keepIn K (.ref f) = true) :
    ∃ fd : FuncData, Fun K "_law_keep" "_law_keep" s_law_keep f fd ∧ Binds K fd ["_law_parts", "_law_part_here"] [] := ⟨_, fun_mk (st := s_law_keep) l c k, (fun_mk (st := s_law_keep) l c k).binds (ps := ["_law_parts", "_law_part_here"]) fun _ _ _ _ _ _ us hl => match us, hl with | [_, _], _ => rfl⟩
theorem mk_law_short {K : PySem.W.Frag} {f : Addr} {od an : Option Addr} {sl : Array (Option Value)} {oc kV dc pm cd ct : Value} (l : K.lookup f = some ⟨oc, od, .func (PySem.W.fnOf "_law_short" "_law_short" (defArgs s_law_short) (defBody s_law_short) (defScope s_law_short) .none kV dc pm an cd ct), sl⟩) (c : PySem.W.codeIn K cd "_law_short" = true) (k : PySem.W.keepIn K (.ref f) = true) :
    ∃ fd : FuncData, Fun K "_law_short" "_law_short" s_law_short f fd ∧ Binds K fd ["_law_parts", "_law_width", "_law_name", "_law_one", "_law_other"] [] := ⟨_, fun_mk (st := s_law_short) l c k, (fun_mk (st := s_law_short) l c k).binds (ps := ["_law_parts", "_law_width", "_law_name", "_law_one", "_law_other"]) fun _ _ _ _ _ _ us hl => match us, hl with | [_, _, _, _, _], _ => rfl⟩
theorem mk_law_apply {K : PySem.W.Frag} {f : Addr} {od an : Option Addr} {sl : Array (Option Value)} {oc kV dc pm cd ct : Value} (l : K.lookup f = some ⟨oc, od, .func (PySem.W.fnOf "_law_apply" "_law_apply" (defArgs s_law_apply) (defBody s_law_apply) (defScope s_law_apply) .none kV dc pm an cd ct), sl⟩) (c : PySem.W.codeIn K cd "_law_apply" = true) (k : PySem.W.keepIn K (.ref f) = true) :
    ∃ fd : FuncData, Fun K "_law_apply" "_law_apply" s_law_apply f fd ∧ Binds K fd ["_law_parts", "_law_width", "_law_name", "_law_one", "_law_other"] [] := ⟨_, fun_mk (st := s_law_apply) l c k, (fun_mk (st := s_law_apply) l c k).binds (ps := ["_law_parts", "_law_width", "_law_name", "_law_one", "_law_other"]) fun _ _ _ _ _ _ us hl => match us, hl with | [_, _, _, _, _], _ => rfl⟩
theorem mk_law_part {K : PySem.W.Frag} {f : Addr} {od an : Option Addr} {sl : Array (Option Value)} {oc kV dc pm cd ct : Value} (l : K.lookup f = some ⟨oc, od, .func (PySem.W.fnOf "_law_part" "_law_part" (defArgs s_law_part) (defBody s_law_part) (defScope s_law_part) .none kV dc pm an cd ct), sl⟩) (c : PySem.W.codeIn K cd "_law_part" = true) (k : PySem.W.keepIn K (.ref f) = true) :
    ∃ fd : FuncData, Fun K "_law_part" "_law_part" s_law_part f fd ∧ Binds K fd ["_law_parts", "_law_width", "_law_row", "_law_places"] [] := ⟨_, fun_mk (st := s_law_part) l c k, (fun_mk (st := s_law_part) l c k).binds (ps := ["_law_parts", "_law_width", "_law_row", "_law_places"]) fun _ _ _ _ _ _ us hl => match us, hl with | [_, _, _, _], _ => rfl⟩
theorem mk_law_asked {K : PySem.W.Frag} {f : Addr} {od an : Option Addr} {sl : Array (Option Value)} {oc kV dc pm cd ct : Value} (l : K.lookup f = some ⟨oc, od, .func (PySem.W.fnOf "_law_asked" "_law_asked" (defArgs s_law_asked) (defBody s_law_asked) (defScope s_law_asked) .none kV dc pm an cd ct), sl⟩) (c : PySem.W.codeIn K cd "_law_asked" = true) (k : PySem.W.keepIn K (.ref f) = true) :
    ∃ fd : FuncData, Fun K "_law_asked" "_law_asked" s_law_asked f fd ∧ Binds K fd ["_law_pool", "_law_row", "_law_places"] [] := ⟨_, fun_mk (st := s_law_asked) l c k, (fun_mk (st := s_law_asked) l c k).binds (ps := ["_law_pool", "_law_row", "_law_places"]) fun _ _ _ _ _ _ us hl => match us, hl with | [_, _, _], _ => rfl⟩
theorem mk_law_reach {K : PySem.W.Frag} {f : Addr} {od an : Option Addr} {sl : Array (Option Value)} {oc kV dc pm cd ct : Value} (l : K.lookup f = some ⟨oc, od, .func (PySem.W.fnOf "_law_reach" "_law_reach" (defArgs s_law_reach) (defBody s_law_reach) (defScope s_law_reach) .none kV dc pm an cd ct), sl⟩) (c : PySem.W.codeIn K cd "_law_reach" = true) (k : PySem.W.keepIn K (.ref f) = true) :
    ∃ fd : FuncData, Fun K "_law_reach" "_law_reach" s_law_reach f fd ∧ Binds K fd ["_law_parts", "_law_numbers"] [] := ⟨_, fun_mk (st := s_law_reach) l c k, (fun_mk (st := s_law_reach) l c k).binds (ps := ["_law_parts", "_law_numbers"]) fun _ _ _ _ _ _ us hl => match us, hl with | [_, _], _ => rfl⟩
theorem mk_law_gets {K : PySem.W.Frag} {f : Addr} {od an : Option Addr} {sl : Array (Option Value)} {oc kV dc pm cd ct : Value} (l : K.lookup f = some ⟨oc, od, .func (PySem.W.fnOf "_law_gets" "_law_gets" (defArgs s_law_gets) (defBody s_law_gets) (defScope s_law_gets) .none kV dc pm an cd ct), sl⟩) (c : PySem.W.codeIn K cd "_law_gets" = true) (k : PySem.W.keepIn K (.ref f) = true) :
    ∃ fd : FuncData, Fun K "_law_gets" "_law_gets" s_law_gets f fd ∧ Binds K fd ["_law_parts", "_law_numbers"] [] := ⟨_, fun_mk (st := s_law_gets) l c k, (fun_mk (st := s_law_gets) l c k).binds (ps := ["_law_parts", "_law_numbers"]) fun _ _ _ _ _ _ us hl => match us, hl with | [_, _], _ => rfl⟩
theorem mk_law_edge_rows {K : PySem.W.Frag} {f : Addr} {od an : Option Addr} {sl : Array (Option Value)} {oc kV dc pm cd ct : Value} (l : K.lookup f = some ⟨oc, od, .func (PySem.W.fnOf "_law_edge_rows" "_law_edge_rows" (defArgs s_law_edge_rows) (defBody s_law_edge_rows) (defScope s_law_edge_rows) .none kV dc pm an cd ct), sl⟩) (c : PySem.W.codeIn K cd "_law_edge_rows" = true) (k : PySem.W.keepIn K (.ref f) = true) :
    ∃ fd : FuncData, Fun K "_law_edge_rows" "_law_edge_rows" s_law_edge_rows f fd ∧ Binds K fd ["_law_draws_here", "_law_rows", "_law_width"] [] := ⟨_, fun_mk (st := s_law_edge_rows) l c k, (fun_mk (st := s_law_edge_rows) l c k).binds (ps := ["_law_draws_here", "_law_rows", "_law_width"]) fun _ _ _ _ _ _ us hl => match us, hl with | [_, _, _], _ => rfl⟩
theorem mk_law_all_made {K : PySem.W.Frag} {f : Addr} {od an : Option Addr} {sl : Array (Option Value)} {oc kV dc pm cd ct : Value} (l : K.lookup f = some ⟨oc, od, .func (PySem.W.fnOf "_law_all_made" "_law_all_made" (defArgs s_law_all_made) (defBody s_law_all_made) (defScope s_law_all_made) .none kV dc pm an cd ct), sl⟩) (c : PySem.W.codeIn K cd "_law_all_made" = true) (k : PySem.W.keepIn K (.ref f) = true) :
    ∃ fd : FuncData, Fun K "_law_all_made" "_law_all_made" s_law_all_made f fd ∧ Binds K fd ["_law_pool", "_law_twin", "_law_parts", "_law_width", "_law_rows"] [] := ⟨_, fun_mk (st := s_law_all_made) l c k, (fun_mk (st := s_law_all_made) l c k).binds (ps := ["_law_pool", "_law_twin", "_law_parts", "_law_width", "_law_rows"]) fun _ _ _ _ _ _ us hl => match us, hl with | [_, _, _, _, _], _ => rfl⟩
theorem mk_law_told_parts {K : PySem.W.Frag} {f : Addr} {od an : Option Addr} {sl : Array (Option Value)} {oc kV dc pm cd ct : Value} (l : K.lookup f = some ⟨oc, od, .func (PySem.W.fnOf "_law_told_parts" "_law_told_parts" (defArgs s_law_told_parts) (defBody s_law_told_parts) (defScope s_law_told_parts) .none kV dc pm an cd ct), sl⟩) (c : PySem.W.codeIn K cd "_law_told_parts" = true) (k : PySem.W.keepIn K (.ref f) = true) :
    ∃ fd : FuncData, Fun K "_law_told_parts" "_law_told_parts" s_law_told_parts f fd ∧ Binds K fd ["_law_pool", "_law_parts"] [] := ⟨_, fun_mk (st := s_law_told_parts) l c k, (fun_mk (st := s_law_told_parts) l c k).binds (ps := ["_law_pool", "_law_parts"]) fun _ _ _ _ _ _ us hl => match us, hl with | [_, _], _ => rfl⟩
theorem mk_law_right_words {K : PySem.W.Frag} {f : Addr} {od an : Option Addr} {sl : Array (Option Value)} {oc kV dc pm cd ct : Value} (l : K.lookup f = some ⟨oc, od, .func (PySem.W.fnOf "_law_right_words" "_law_right_words" (defArgs s_law_right_words) (defBody s_law_right_words) (defScope s_law_right_words) .none kV dc pm an cd ct), sl⟩) (c : PySem.W.codeIn K cd "_law_right_words" = true) (k : PySem.W.keepIn K (.ref f) = true) :
    ∃ fd : FuncData, Fun K "_law_right_words" "_law_right_words" s_law_right_words f fd ∧ Binds K fd ["_law_draws_here", "_law_pool", "_law_rows", "_law_places", "_law_unknowns", "_law_width"] [] := ⟨_, fun_mk (st := s_law_right_words) l c k, (fun_mk (st := s_law_right_words) l c k).binds (ps := ["_law_draws_here", "_law_pool", "_law_rows", "_law_places", "_law_unknowns", "_law_width"]) fun _ _ _ _ _ _ us hl => match us, hl with | [_, _, _, _, _, _], _ => rfl⟩
theorem mk_law_made_of {K : PySem.W.Frag} {f : Addr} {od an : Option Addr} {sl : Array (Option Value)} {oc kV dc pm cd ct : Value} (l : K.lookup f = some ⟨oc, od, .func (PySem.W.fnOf "_law_made_of" "_law_made_of" (defArgs s_law_made_of) (defBody s_law_made_of) (defScope s_law_made_of) .none kV dc pm an cd ct), sl⟩) (c : PySem.W.codeIn K cd "_law_made_of" = true) (k : PySem.W.keepIn K (.ref f) = true) :
    ∃ fd : FuncData, Fun K "_law_made_of" "_law_made_of" s_law_made_of f fd ∧ Binds K fd ["_law_draws_here", "_law_pool", "_law_parts"] [] := ⟨_, fun_mk (st := s_law_made_of) l c k, (fun_mk (st := s_law_made_of) l c k).binds (ps := ["_law_draws_here", "_law_pool", "_law_parts"]) fun _ _ _ _ _ _ us hl => match us, hl with | [_, _, _], _ => rfl⟩
theorem mk_law_put_in_told {K : PySem.W.Frag} {f : Addr} {od an : Option Addr} {sl : Array (Option Value)} {oc kV dc pm cd ct : Value} (l : K.lookup f = some ⟨oc, od, .func (PySem.W.fnOf "_law_put_in_told" "_law_put_in_told" (defArgs s_law_put_in_told) (defBody s_law_put_in_told) (defScope s_law_put_in_told) .none kV dc pm an cd ct), sl⟩) (c : PySem.W.codeIn K cd "_law_put_in_told" = true) (k : PySem.W.keepIn K (.ref f) = true) :
    ∃ fd : FuncData, Fun K "_law_put_in_told" "_law_put_in_told" s_law_put_in_told f fd ∧ Binds K fd ["_law_pool", "_law_part_here", "_law_new"] [] := ⟨_, fun_mk (st := s_law_put_in_told) l c k, (fun_mk (st := s_law_put_in_told) l c k).binds (ps := ["_law_pool", "_law_part_here", "_law_new"]) fun _ _ _ _ _ _ us hl => match us, hl with | [_, _, _], _ => rfl⟩
theorem mk_law_filled {K : PySem.W.Frag} {f : Addr} {od an : Option Addr} {sl : Array (Option Value)} {oc kV dc pm cd ct : Value} (l : K.lookup f = some ⟨oc, od, .func (PySem.W.fnOf "_law_filled" "_law_filled" (defArgs s_law_filled) (defBody s_law_filled) (defScope s_law_filled) .none kV dc pm an cd ct), sl⟩) (c : PySem.W.codeIn K cd "_law_filled" = true) (k : PySem.W.keepIn K (.ref f) = true) :
    ∃ fd : FuncData, Fun K "_law_filled" "_law_filled" s_law_filled f fd ∧ Binds K fd ["_law_draws_here", "_law_pool", "_law_parts", "_law_rows", "_law_places", "_law_unknowns", "_law_width"] [] := ⟨_, fun_mk (st := s_law_filled) l c k, (fun_mk (st := s_law_filled) l c k).binds (ps := ["_law_draws_here", "_law_pool", "_law_parts", "_law_rows", "_law_places", "_law_unknowns", "_law_width"]) fun _ _ _ _ _ _ us hl => match us, hl with | [_, _, _, _, _, _, _], _ => rfl⟩
theorem mk_law_refused {K : PySem.W.Frag} {f : Addr} {od an : Option Addr} {sl : Array (Option Value)} {oc kV dc pm cd ct : Value} (l : K.lookup f = some ⟨oc, od, .func (PySem.W.fnOf "_law_refused" "_law_refused" (defArgs s_law_refused) (defBody s_law_refused) (defScope s_law_refused) .none kV dc pm an cd ct), sl⟩) (c : PySem.W.codeIn K cd "_law_refused" = true) (k : PySem.W.keepIn K (.ref f) = true) :
    ∃ fd : FuncData, Fun K "_law_refused" "_law_refused" s_law_refused f fd ∧ Binds K fd ["_law_pool", "_law_door"] [] := ⟨_, fun_mk (st := s_law_refused) l c k, (fun_mk (st := s_law_refused) l c k).binds (ps := ["_law_pool", "_law_door"]) fun _ _ _ _ _ _ us hl => match us, hl with | [_, _], _ => rfl⟩
theorem mk_law_full {K : PySem.W.Frag} {f : Addr} {od an : Option Addr} {sl : Array (Option Value)} {oc kV dc pm cd ct : Value} (l : K.lookup f = some ⟨oc, od, .func (PySem.W.fnOf "_law_full" "_law_full" (defArgs s_law_full) (defBody s_law_full) (defScope s_law_full) .none kV dc pm an cd ct), sl⟩) (c : PySem.W.codeIn K cd "_law_full" = true) (k : PySem.W.keepIn K (.ref f) = true) :
    ∃ fd : FuncData, Fun K "_law_full" "_law_full" s_law_full f fd ∧ Binds K fd [] [] := ⟨_, fun_mk (st := s_law_full) l c k, (fun_mk (st := s_law_full) l c k).binds (ps := []) fun _ _ _ _ _ _ us hl => match us, hl with | [], _ => rfl⟩
theorem mk_law {K : PySem.W.Frag} {f : Addr} {od an : Option Addr} {sl : Array (Option Value)} {oc kV dc pm cd ct : Value} (l : K.lookup f = some ⟨oc, od, .func (PySem.W.fnOf "law" "law" (defArgs s_law) (defBody s_law) (defScope s_law) .none kV dc pm an cd ct), sl⟩) (c : PySem.W.codeIn K cd "law" = true) (k : PySem.W.keepIn K (.ref f) = true) :
    ∃ fd : FuncData, Fun K "law" "law" s_law f fd ∧ Binds K fd ["_law_script"] [] := ⟨_, fun_mk (st := s_law) l c k, (fun_mk (st := s_law) l c k).binds (ps := ["_law_script"]) fun _ _ _ _ _ _ us hl => match us, hl with | [_], _ => rfl⟩
theorem all_mk {K : PySem.W.Frag} {h : Heap} {mg : Str → Option Value} {C f_TooMany_init f_op_word f_shortened f_shortened_and f_shortened_twice f_is_int f_is_row f_check_int f_ones f_put_in f_p_init f_p_len f_p_iter f_p_check_part f_p_check_parts f_p_num f_p_unknown f_p_apply f_p_part f_p_value f_p_reached f_p_reached_by f_p_unknowns f_p_made f_p_word f_p_gets f_law_draws f_law_take f_law_word f_law_is_int f_law_op f_law_ops f_law_term_rows f_law_row_words f_law_keep f_law_short f_law_apply f_law_part f_law_asked f_law_reach f_law_gets f_law_edge_rows f_law_all_made f_law_told_parts f_law_right_words f_law_made_of f_law_put_in_told f_law_filled f_law_refused f_law_full f_law C_BadPart C_TooMany a_OPS a_EITHER_WAY : Addr} {t_MOST_PARTS t_LAST_UNKNOWN : Tok} (X : K.In h) (G : h.Ns mainGlobals mg)
    (xa_TooMany : PySem.W.nsIn K mainGlobals "TooMany" = some (some (.ref C_TooMany)))
    (ii_TooMany : PySem.W.findIn K (.ref C_TooMany) "__init__" = some (some (.ref f_TooMany_init)))
    (it_TooMany : PySem.W.typeIn K (.ref f_TooMany_init) = some (.type "function"))
    (m_TooMany_init : ∃ fd : FuncData, Fun K "__init__" "TooMany.__init__" s_TooMany_init f_TooMany_init fd ∧ Binds K fd ["self", "name"] [])
    (a_fn_op_word : PySem.W.nsIn K mainGlobals "op_word" = some (some (.ref f_op_word)))
    (m_op_word : ∃ fd : FuncData, Fun K "op_word" "op_word" s_op_word f_op_word fd ∧ Binds K fd ["name", "one", "other", "width"] [])
    (a_fn_shortened : PySem.W.nsIn K mainGlobals "shortened" = some (some (.ref f_shortened)))
    (m_shortened : ∃ fd : FuncData, Fun K "shortened" "shortened" s_shortened f_shortened fd ∧ Binds K fd ["name", "first", "second", "equal", "most"] [])
    (a_fn_shortened_and : PySem.W.nsIn K mainGlobals "shortened_and" = some (some (.ref f_shortened_and)))
    (m_shortened_and : ∃ fd : FuncData, Fun K "shortened_and" "shortened_and" s_shortened_and f_shortened_and fd ∧ Binds K fd ["first", "second", "equal", "most"] [])
    (a_fn_shortened_twice : PySem.W.nsIn K mainGlobals "shortened_twice" = some (some (.ref f_shortened_twice)))
    (m_shortened_twice : ∃ fd : FuncData, Fun K "shortened_twice" "shortened_twice" s_shortened_twice f_shortened_twice fd ∧ Binds K fd ["name"] [])
    (a_fn_is_int : PySem.W.nsIn K mainGlobals "is_int" = some (some (.ref f_is_int)))
    (m_is_int : ∃ fd : FuncData, Fun K "is_int" "is_int" s_is_int f_is_int fd ∧ Binds K fd ["value"] [])
    (a_fn_is_row : PySem.W.nsIn K mainGlobals "is_row" = some (some (.ref f_is_row)))
    (m_is_row : ∃ fd : FuncData, Fun K "is_row" "is_row" s_is_row f_is_row fd ∧ Binds K fd ["value"] [])
    (a_fn_check_int : PySem.W.nsIn K mainGlobals "check_int" = some (some (.ref f_check_int)))
    (m_check_int : ∃ fd : FuncData, Fun K "check_int" "check_int" s_check_int f_check_int fd ∧ Binds K fd ["value", "low", "high", "name"] [])
    (a_fn_ones : PySem.W.nsIn K mainGlobals "ones" = some (some (.ref f_ones)))
    (m_ones : ∃ fd : FuncData, Fun K "ones" "ones" s_ones f_ones fd ∧ Binds K fd ["width"] [])
    (a_fn_put_in : PySem.W.nsIn K mainGlobals "put_in" = some (some (.ref f_put_in)))
    (m_put_in : ∃ fd : FuncData, Fun K "put_in" "put_in" s_put_in f_put_in fd ∧ Binds K fd ["pool", "part", "parts"] [])
    (a_fn_p_init : PySem.W.findIn K (.ref C) "__init__" = some (some (.ref f_p_init)))
    (i_p_init : PySem.W.isFn K (.ref f_p_init) = true)
    (kp_p_init : PySem.W.keepIn K (.ref f_p_init) = true)
    (m_p_init : ∃ fd : FuncData, Fun K "__init__" "Pool.__init__" s_p_init f_p_init fd ∧ Binds K fd ["self", "width"] [])
    (a_fn_p_len : PySem.W.findIn K (.ref C) "__len__" = some (some (.ref f_p_len)))
    (i_p_len : PySem.W.isFn K (.ref f_p_len) = true)
    (kp_p_len : PySem.W.keepIn K (.ref f_p_len) = true)
    (m_p_len : ∃ fd : FuncData, Fun K "__len__" "Pool.__len__" s_p_len f_p_len fd ∧ Binds K fd ["self"] [])
    (a_fn_p_iter : PySem.W.findIn K (.ref C) "__iter__" = some (some (.ref f_p_iter)))
    (i_p_iter : PySem.W.isFn K (.ref f_p_iter) = true)
    (kp_p_iter : PySem.W.keepIn K (.ref f_p_iter) = true)
    (m_p_iter : ∃ fd : FuncData, Fun K "__iter__" "Pool.__iter__" s_p_iter f_p_iter fd ∧ Binds K fd ["self"] [])
    (a_fn_p_check_part : PySem.W.findIn K (.ref C) "check_part" = some (some (.ref f_p_check_part)))
    (i_p_check_part : PySem.W.isFn K (.ref f_p_check_part) = true)
    (kp_p_check_part : PySem.W.keepIn K (.ref f_p_check_part) = true)
    (m_p_check_part : ∃ fd : FuncData, Fun K "check_part" "Pool.check_part" s_p_check_part f_p_check_part fd ∧ Binds K fd ["self", "number"] [])
    (a_fn_p_check_parts : PySem.W.findIn K (.ref C) "check_parts" = some (some (.ref f_p_check_parts)))
    (i_p_check_parts : PySem.W.isFn K (.ref f_p_check_parts) = true)
    (kp_p_check_parts : PySem.W.keepIn K (.ref f_p_check_parts) = true)
    (m_p_check_parts : ∃ fd : FuncData, Fun K "check_parts" "Pool.check_parts" s_p_check_parts f_p_check_parts fd ∧ Binds K fd ["self", "numbers"] [])
    (a_fn_p_num : PySem.W.findIn K (.ref C) "num" = some (some (.ref f_p_num)))
    (i_p_num : PySem.W.isFn K (.ref f_p_num) = true)
    (kp_p_num : PySem.W.keepIn K (.ref f_p_num) = true)
    (m_p_num : ∃ fd : FuncData, Fun K "num" "Pool.num" s_p_num f_p_num fd ∧ Binds K fd ["self", "value"] [])
    (a_fn_p_unknown : PySem.W.findIn K (.ref C) "unknown" = some (some (.ref f_p_unknown)))
    (i_p_unknown : PySem.W.isFn K (.ref f_p_unknown) = true)
    (kp_p_unknown : PySem.W.keepIn K (.ref f_p_unknown) = true)
    (m_p_unknown : ∃ fd : FuncData, Fun K "unknown" "Pool.unknown" s_p_unknown f_p_unknown fd ∧ Binds K fd ["self", "number"] [])
    (a_fn_p_apply : PySem.W.findIn K (.ref C) "apply" = some (some (.ref f_p_apply)))
    (i_p_apply : PySem.W.isFn K (.ref f_p_apply) = true)
    (kp_p_apply : PySem.W.keepIn K (.ref f_p_apply) = true)
    (m_p_apply : ∃ fd : FuncData, Fun K "apply" "Pool.apply" s_p_apply f_p_apply fd ∧ Binds K fd ["self", "name", "one", "other"] [])
    (a_fn_p_part : PySem.W.findIn K (.ref C) "part" = some (some (.ref f_p_part)))
    (i_p_part : PySem.W.isFn K (.ref f_p_part) = true)
    (kp_p_part : PySem.W.keepIn K (.ref f_p_part) = true)
    (m_p_part : ∃ fd : FuncData, Fun K "part" "Pool.part" s_p_part f_p_part fd ∧ Binds K fd ["self", "number"] [])
    (a_fn_p_value : PySem.W.findIn K (.ref C) "value" = some (some (.ref f_p_value)))
    (i_p_value : PySem.W.isFn K (.ref f_p_value) = true)
    (kp_p_value : PySem.W.keepIn K (.ref f_p_value) = true)
    (m_p_value : ∃ fd : FuncData, Fun K "value" "Pool.value" s_p_value f_p_value fd ∧ Binds K fd ["self", "number", "words"] [])
    (a_fn_p_reached : PySem.W.findIn K (.ref C) "reached" = some (some (.ref f_p_reached)))
    (i_p_reached : PySem.W.isFn K (.ref f_p_reached) = true)
    (kp_p_reached : PySem.W.keepIn K (.ref f_p_reached) = true)
    (m_p_reached : ∃ fd : FuncData, Fun K "reached" "Pool.reached" s_p_reached f_p_reached fd ∧ Binds K fd ["self", "number"] [])
    (a_fn_p_reached_by : PySem.W.findIn K (.ref C) "reached_by" = some (some (.ref f_p_reached_by)))
    (i_p_reached_by : PySem.W.isFn K (.ref f_p_reached_by) = true)
    (kp_p_reached_by : PySem.W.keepIn K (.ref f_p_reached_by) = true)
    (m_p_reached_by : ∃ fd : FuncData, Fun K "reached_by" "Pool.reached_by" s_p_reached_by f_p_reached_by fd ∧ Binds K fd ["self", "numbers"] [])
    (a_fn_p_unknowns : PySem.W.findIn K (.ref C) "unknowns" = some (some (.ref f_p_unknowns)))
    (i_p_unknowns : PySem.W.isFn K (.ref f_p_unknowns) = true)
    (kp_p_unknowns : PySem.W.keepIn K (.ref f_p_unknowns) = true)
    (m_p_unknowns : ∃ fd : FuncData, Fun K "unknowns" "Pool.unknowns" s_p_unknowns f_p_unknowns fd ∧ Binds K fd ["self", "numbers"] [])
    (a_fn_p_made : PySem.W.findIn K (.ref C) "_made" = some (some (.ref f_p_made)))
    (i_p_made : PySem.W.isFn K (.ref f_p_made) = true)
    (kp_p_made : PySem.W.keepIn K (.ref f_p_made) = true)
    (m_p_made : ∃ fd : FuncData, Fun K "_made" "Pool._made" s_p_made f_p_made fd ∧ Binds K fd ["self", "part"] [])
    (a_fn_p_word : PySem.W.findIn K (.ref C) "_word" = some (some (.ref f_p_word)))
    (i_p_word : PySem.W.isFn K (.ref f_p_word) = true)
    (kp_p_word : PySem.W.keepIn K (.ref f_p_word) = true)
    (m_p_word : ∃ fd : FuncData, Fun K "_word" "Pool._word" s_p_word f_p_word fd ∧ Binds K fd ["self", "number"] [])
    (a_fn_p_gets : PySem.W.findIn K (.ref C) "_gets" = some (some (.ref f_p_gets)))
    (i_p_gets : PySem.W.isFn K (.ref f_p_gets) = true)
    (kp_p_gets : PySem.W.keepIn K (.ref f_p_gets) = true)
    (m_p_gets : ∃ fd : FuncData, Fun K "_gets" "Pool._gets" s_p_gets f_p_gets fd ∧ Binds K fd ["self", "numbers"] [])
    (a_fn_law_draws : PySem.W.nsIn K mainGlobals "_law_draws" = some (some (.ref f_law_draws)))
    (m_law_draws : ∃ fd : FuncData, Fun K "_law_draws" "_law_draws" s_law_draws f_law_draws fd ∧ Binds K fd ["_law_script"] [])
    (a_fn_law_take : PySem.W.nsIn K mainGlobals "_law_take" = some (some (.ref f_law_take)))
    (m_law_take : ∃ fd : FuncData, Fun K "_law_take" "_law_take" s_law_take f_law_take fd ∧ Binds K fd ["_law_draws_here", "_law_many"] [])
    (a_fn_law_word : PySem.W.nsIn K mainGlobals "_law_word" = some (some (.ref f_law_word)))
    (m_law_word : ∃ fd : FuncData, Fun K "_law_word" "_law_word" s_law_word f_law_word fd ∧ Binds K fd ["_law_draws_here", "_law_width"] [])
    (a_fn_law_is_int : PySem.W.nsIn K mainGlobals "_law_is_int" = some (some (.ref f_law_is_int)))
    (m_law_is_int : ∃ fd : FuncData, Fun K "_law_is_int" "_law_is_int" s_law_is_int f_law_is_int fd ∧ Binds K fd ["_law_thing"] [])
    (a_fn_law_op : PySem.W.nsIn K mainGlobals "_law_op" = some (some (.ref f_law_op)))
    (m_law_op : ∃ fd : FuncData, Fun K "_law_op" "_law_op" s_law_op f_law_op fd ∧ Binds K fd ["_law_name", "_law_one", "_law_other", "_law_width"] [])
    (a_fn_law_ops : PySem.W.nsIn K mainGlobals "_law_ops" = some (some (.ref f_law_ops)))
    (m_law_ops : ∃ fd : FuncData, Fun K "_law_ops" "_law_ops" s_law_ops f_law_ops fd ∧ Binds K fd [] [])
    (a_fn_law_term_rows : PySem.W.nsIn K mainGlobals "_law_term_rows" = some (some (.ref f_law_term_rows)))
    (m_law_term_rows : ∃ fd : FuncData, Fun K "_law_term_rows" "_law_term_rows" s_law_term_rows f_law_term_rows fd ∧ Binds K fd ["_law_draws_here", "_law_unknowns", "_law_width", "_law_many", "_law_plain"] [])
    (a_fn_law_row_words : PySem.W.nsIn K mainGlobals "_law_row_words" = some (some (.ref f_law_row_words)))
    (m_law_row_words : ∃ fd : FuncData, Fun K "_law_row_words" "_law_row_words" s_law_row_words f_law_row_words fd ∧ Binds K fd ["_law_rows", "_law_words", "_law_width"] [])
    (a_fn_law_keep : PySem.W.nsIn K mainGlobals "_law_keep" = some (some (.ref f_law_keep)))
    (m_law_keep : ∃ fd : FuncData, Fun K "_law_keep" "_law_keep" s_law_keep f_law_keep fd ∧ Binds K fd ["_law_parts", "_law_part_here"] [])
    (a_fn_law_short : PySem.W.nsIn K mainGlobals "_law_short" = some (some (.ref f_law_short)))
    (m_law_short : ∃ fd : FuncData, Fun K "_law_short" "_law_short" s_law_short f_law_short fd ∧ Binds K fd ["_law_parts", "_law_width", "_law_name", "_law_one", "_law_other"] [])
    (a_fn_law_apply : PySem.W.nsIn K mainGlobals "_law_apply" = some (some (.ref f_law_apply)))
    (m_law_apply : ∃ fd : FuncData, Fun K "_law_apply" "_law_apply" s_law_apply f_law_apply fd ∧ Binds K fd ["_law_parts", "_law_width", "_law_name", "_law_one", "_law_other"] [])
    (a_fn_law_part : PySem.W.nsIn K mainGlobals "_law_part" = some (some (.ref f_law_part)))
    (m_law_part : ∃ fd : FuncData, Fun K "_law_part" "_law_part" s_law_part f_law_part fd ∧ Binds K fd ["_law_parts", "_law_width", "_law_row", "_law_places"] [])
    (a_fn_law_asked : PySem.W.nsIn K mainGlobals "_law_asked" = some (some (.ref f_law_asked)))
    (m_law_asked : ∃ fd : FuncData, Fun K "_law_asked" "_law_asked" s_law_asked f_law_asked fd ∧ Binds K fd ["_law_pool", "_law_row", "_law_places"] [])
    (a_fn_law_reach : PySem.W.nsIn K mainGlobals "_law_reach" = some (some (.ref f_law_reach)))
    (m_law_reach : ∃ fd : FuncData, Fun K "_law_reach" "_law_reach" s_law_reach f_law_reach fd ∧ Binds K fd ["_law_parts", "_law_numbers"] [])
    (a_fn_law_gets : PySem.W.nsIn K mainGlobals "_law_gets" = some (some (.ref f_law_gets)))
    (m_law_gets : ∃ fd : FuncData, Fun K "_law_gets" "_law_gets" s_law_gets f_law_gets fd ∧ Binds K fd ["_law_parts", "_law_numbers"] [])
    (a_fn_law_edge_rows : PySem.W.nsIn K mainGlobals "_law_edge_rows" = some (some (.ref f_law_edge_rows)))
    (m_law_edge_rows : ∃ fd : FuncData, Fun K "_law_edge_rows" "_law_edge_rows" s_law_edge_rows f_law_edge_rows fd ∧ Binds K fd ["_law_draws_here", "_law_rows", "_law_width"] [])
    (a_fn_law_all_made : PySem.W.nsIn K mainGlobals "_law_all_made" = some (some (.ref f_law_all_made)))
    (m_law_all_made : ∃ fd : FuncData, Fun K "_law_all_made" "_law_all_made" s_law_all_made f_law_all_made fd ∧ Binds K fd ["_law_pool", "_law_twin", "_law_parts", "_law_width", "_law_rows"] [])
    (a_fn_law_told_parts : PySem.W.nsIn K mainGlobals "_law_told_parts" = some (some (.ref f_law_told_parts)))
    (m_law_told_parts : ∃ fd : FuncData, Fun K "_law_told_parts" "_law_told_parts" s_law_told_parts f_law_told_parts fd ∧ Binds K fd ["_law_pool", "_law_parts"] [])
    (a_fn_law_right_words : PySem.W.nsIn K mainGlobals "_law_right_words" = some (some (.ref f_law_right_words)))
    (m_law_right_words : ∃ fd : FuncData, Fun K "_law_right_words" "_law_right_words" s_law_right_words f_law_right_words fd ∧ Binds K fd ["_law_draws_here", "_law_pool", "_law_rows", "_law_places", "_law_unknowns", "_law_width"] [])
    (a_fn_law_made_of : PySem.W.nsIn K mainGlobals "_law_made_of" = some (some (.ref f_law_made_of)))
    (m_law_made_of : ∃ fd : FuncData, Fun K "_law_made_of" "_law_made_of" s_law_made_of f_law_made_of fd ∧ Binds K fd ["_law_draws_here", "_law_pool", "_law_parts"] [])
    (a_fn_law_put_in_told : PySem.W.nsIn K mainGlobals "_law_put_in_told" = some (some (.ref f_law_put_in_told)))
    (m_law_put_in_told : ∃ fd : FuncData, Fun K "_law_put_in_told" "_law_put_in_told" s_law_put_in_told f_law_put_in_told fd ∧ Binds K fd ["_law_pool", "_law_part_here", "_law_new"] [])
    (a_fn_law_filled : PySem.W.nsIn K mainGlobals "_law_filled" = some (some (.ref f_law_filled)))
    (m_law_filled : ∃ fd : FuncData, Fun K "_law_filled" "_law_filled" s_law_filled f_law_filled fd ∧ Binds K fd ["_law_draws_here", "_law_pool", "_law_parts", "_law_rows", "_law_places", "_law_unknowns", "_law_width"] [])
    (a_fn_law_refused : PySem.W.nsIn K mainGlobals "_law_refused" = some (some (.ref f_law_refused)))
    (m_law_refused : ∃ fd : FuncData, Fun K "_law_refused" "_law_refused" s_law_refused f_law_refused fd ∧ Binds K fd ["_law_pool", "_law_door"] [])
    (a_fn_law_full : PySem.W.nsIn K mainGlobals "_law_full" = some (some (.ref f_law_full)))
    (m_law_full : ∃ fd : FuncData, Fun K "_law_full" "_law_full" s_law_full f_law_full fd ∧ Binds K fd [] [])
    (a_fn_law : PySem.W.nsIn K mainGlobals "law" = some (some (.ref f_law)))
    {od an : Option Addr} {sl : Array (Option Value)} {oc kV dc pm cd ct : Value}
    (l_law : K.lookup f_law = some ⟨oc, od, .func (PySem.W.fnOf "law" "law" (defArgs s_law) (defBody s_law) (defScope s_law) .none kV dc pm an cd ct), sl⟩)
    (c_law : PySem.W.codeIn K cd "law" = true)
    (kp_law : PySem.W.keepIn K (.ref f_law) = true)
    (aC : PySem.W.nsIn K mainGlobals "Pool" = some (some (.ref C)))
    (pg : PySem.W.plainGet K C Str.empty = true)
    (hd_ : PySem.W.hasDictIn K C = true)
    (po : PySem.W.plainOver K C = true)
    (sa : PySem.W.findIn K (.ref C) "__setattr__" = some (some (.builtin "object.__setattr__")))
    (mkI : PySem.W.makesIn K C = true)
    (kc : PySem.W.keepIn K (.ref C) = true)
    (nA_width : PySem.W.findIn K (.ref C) "width" = some none)
    (nA__most : PySem.W.findIn K (.ref C) "_most" = some none)
    (nA__parts : PySem.W.findIn K (.ref C) "_parts" = some none)
    (nA__numbers : PySem.W.findIn K (.ref C) "_numbers" = some none)
    (ct_MOST_PARTS : PySem.W.nsIn K mainGlobals "MOST_PARTS" = some (some (.int 4000 t_MOST_PARTS)))
    (ct_LAST_UNKNOWN : PySem.W.nsIn K mainGlobals "LAST_UNKNOWN" = some (some (.int 63 t_LAST_UNKNOWN)))
    (ca_OPS : PySem.W.nsIn K mainGlobals "OPS" = some (some (.ref a_OPS)))
    (cv_OPS : ∀ H, SqT K H a_OPS [.str "add", .str "sub", .str "and", .str "or", .str "xor", .str "less", .str "same"])
    (ca_EITHER_WAY : PySem.W.nsIn K mainGlobals "EITHER_WAY" = some (some (.ref a_EITHER_WAY)))
    (cv_EITHER_WAY : ∀ H, SqT K H a_EITHER_WAY [.str "add", .str "and", .str "or", .str "xor", .str "same"])
    (z_len : PySem.W.nsIn K mainGlobals "len" = some none)
    (z_list : PySem.W.nsIn K mainGlobals "list" = some none)
    (z_tuple : PySem.W.nsIn K mainGlobals "tuple" = some none)
    (z_int : PySem.W.nsIn K mainGlobals "int" = some none)
    (z_min : PySem.W.nsIn K mainGlobals "min" = some none)
    (z_range : PySem.W.nsIn K mainGlobals "range" = some none)
    (z_isinstance : PySem.W.nsIn K mainGlobals "isinstance" = some none)
    (z_sorted : PySem.W.nsIn K mainGlobals "sorted" = some none)
    (z_bool : PySem.W.nsIn K mainGlobals "bool" = some none)
    (z_iter : PySem.W.nsIn K mainGlobals "iter" = some none)
    (xa_BadPart : PySem.W.nsIn K mainGlobals "BadPart" = some (some (.ref C_BadPart)))
    (xk_BadPart : PySem.W.keepIn K (.ref C_BadPart) = true)
    (xx_BadPart : PySem.W.excIn K C_BadPart [.type "Exception", .type "BaseException", .type "object"] "Exception.__new__" = true)
    (xb_BadPart : PySem.W.subIn K (.ref C_BadPart) (.type "BaseException") = some true)
    (xt_BadPart : PySem.W.typeIn K (.ref C_BadPart) = some (.type "type"))
    (xi_BadPart : PySem.W.isClsIn K C_BadPart = true)
    (xs_BadPart : PySem.W.subIn K (.ref C_BadPart) (.ref C_BadPart) = some true)
    (xe_TooMany : PySem.W.excInitIn K C_TooMany [.type "Exception", .type "BaseException", .type "object"] "Exception.__new__" = true)
    (xsa_TooMany : PySem.W.findIn K (.ref C_TooMany) "__setattr__" = some (some (.builtin "object.__setattr__")))
    (xk_TooMany : PySem.W.keepIn K (.ref C_TooMany) = true)
    (xb_TooMany : PySem.W.subIn K (.ref C_TooMany) (.type "BaseException") = some true)
    (xt_TooMany : PySem.W.typeIn K (.ref C_TooMany) = some (.type "type"))
    (xi_TooMany : PySem.W.isClsIn K C_TooMany = true)
    (xs_TooMany : PySem.W.subIn K (.ref C_TooMany) (.ref C_TooMany) = some true)
    (xhd_TooMany : PySem.W.hasDictIn K C_TooMany = true)
    (xga_TooMany : PySem.W.findIn K (.ref C_TooMany) "__getattribute__" = some (some (.builtin "BaseException.__getattribute__")))
    (xgg_TooMany : PySem.W.findIn K (.ref C_TooMany) "__getattr__" = some none)
    (xnf_TooMany : PySem.W.findIn K (.ref C_TooMany) "name" = some none)
    : ∃ T : Txt K mg, T.f_law = f_law ∧ T.fd_law = PySem.W.fnOf "law" "law" (defArgs s_law) (defBody s_law) (defScope s_law) .none kV dc pm an cd ct := by
  obtain ⟨fd_TooMany_init, F_TooMany_init, b_TooMany_init⟩ := m_TooMany_init
  obtain ⟨fd_op_word, F_op_word, b_op_word⟩ := m_op_word
  obtain ⟨fd_shortened, F_shortened, b_shortened⟩ := m_shortened
  obtain ⟨fd_shortened_and, F_shortened_and, b_shortened_and⟩ := m_shortened_and
  obtain ⟨fd_shortened_twice, F_shortened_twice, b_shortened_twice⟩ := m_shortened_twice
  obtain ⟨fd_is_int, F_is_int, b_is_int⟩ := m_is_int
  obtain ⟨fd_is_row, F_is_row, b_is_row⟩ := m_is_row
  obtain ⟨fd_check_int, F_check_int, b_check_int⟩ := m_check_int
  obtain ⟨fd_ones, F_ones, b_ones⟩ := m_ones
  obtain ⟨fd_put_in, F_put_in, b_put_in⟩ := m_put_in
  obtain ⟨fd_p_init, F_p_init, b_p_init⟩ := m_p_init
  obtain ⟨fd_p_len, F_p_len, b_p_len⟩ := m_p_len
  obtain ⟨fd_p_iter, F_p_iter, b_p_iter⟩ := m_p_iter
  obtain ⟨fd_p_check_part, F_p_check_part, b_p_check_part⟩ := m_p_check_part
  obtain ⟨fd_p_check_parts, F_p_check_parts, b_p_check_parts⟩ := m_p_check_parts
  obtain ⟨fd_p_num, F_p_num, b_p_num⟩ := m_p_num
  obtain ⟨fd_p_unknown, F_p_unknown, b_p_unknown⟩ := m_p_unknown
  obtain ⟨fd_p_apply, F_p_apply, b_p_apply⟩ := m_p_apply
  obtain ⟨fd_p_part, F_p_part, b_p_part⟩ := m_p_part
  obtain ⟨fd_p_value, F_p_value, b_p_value⟩ := m_p_value
  obtain ⟨fd_p_reached, F_p_reached, b_p_reached⟩ := m_p_reached
  obtain ⟨fd_p_reached_by, F_p_reached_by, b_p_reached_by⟩ := m_p_reached_by
  obtain ⟨fd_p_unknowns, F_p_unknowns, b_p_unknowns⟩ := m_p_unknowns
  obtain ⟨fd_p_made, F_p_made, b_p_made⟩ := m_p_made
  obtain ⟨fd_p_word, F_p_word, b_p_word⟩ := m_p_word
  obtain ⟨fd_p_gets, F_p_gets, b_p_gets⟩ := m_p_gets
  obtain ⟨fd_law_draws, F_law_draws, b_law_draws⟩ := m_law_draws
  obtain ⟨fd_law_take, F_law_take, b_law_take⟩ := m_law_take
  obtain ⟨fd_law_word, F_law_word, b_law_word⟩ := m_law_word
  obtain ⟨fd_law_is_int, F_law_is_int, b_law_is_int⟩ := m_law_is_int
  obtain ⟨fd_law_op, F_law_op, b_law_op⟩ := m_law_op
  obtain ⟨fd_law_ops, F_law_ops, b_law_ops⟩ := m_law_ops
  obtain ⟨fd_law_term_rows, F_law_term_rows, b_law_term_rows⟩ := m_law_term_rows
  obtain ⟨fd_law_row_words, F_law_row_words, b_law_row_words⟩ := m_law_row_words
  obtain ⟨fd_law_keep, F_law_keep, b_law_keep⟩ := m_law_keep
  obtain ⟨fd_law_short, F_law_short, b_law_short⟩ := m_law_short
  obtain ⟨fd_law_apply, F_law_apply, b_law_apply⟩ := m_law_apply
  obtain ⟨fd_law_part, F_law_part, b_law_part⟩ := m_law_part
  obtain ⟨fd_law_asked, F_law_asked, b_law_asked⟩ := m_law_asked
  obtain ⟨fd_law_reach, F_law_reach, b_law_reach⟩ := m_law_reach
  obtain ⟨fd_law_gets, F_law_gets, b_law_gets⟩ := m_law_gets
  obtain ⟨fd_law_edge_rows, F_law_edge_rows, b_law_edge_rows⟩ := m_law_edge_rows
  obtain ⟨fd_law_all_made, F_law_all_made, b_law_all_made⟩ := m_law_all_made
  obtain ⟨fd_law_told_parts, F_law_told_parts, b_law_told_parts⟩ := m_law_told_parts
  obtain ⟨fd_law_right_words, F_law_right_words, b_law_right_words⟩ := m_law_right_words
  obtain ⟨fd_law_made_of, F_law_made_of, b_law_made_of⟩ := m_law_made_of
  obtain ⟨fd_law_put_in_told, F_law_put_in_told, b_law_put_in_told⟩ := m_law_put_in_told
  obtain ⟨fd_law_filled, F_law_filled, b_law_filled⟩ := m_law_filled
  obtain ⟨fd_law_refused, F_law_refused, b_law_refused⟩ := m_law_refused
  obtain ⟨fd_law_full, F_law_full, b_law_full⟩ := m_law_full
  have F_law := fun_mk (st := s_law) l_law c_law kp_law
  refine ⟨{
    f_TooMany_init := f_TooMany_init,
    fd_TooMany_init := fd_TooMany_init,
    F_TooMany_init := F_TooMany_init,
    b_TooMany_init := b_TooMany_init,
    f_op_word := f_op_word,
    fd_op_word := fd_op_word,
    F_op_word := F_op_word,
    b_op_word := b_op_word,
    g_op_word := PySem.W.mg_of X G a_fn_op_word,
    f_shortened := f_shortened,
    fd_shortened := fd_shortened,
    F_shortened := F_shortened,
    b_shortened := b_shortened,
    g_shortened := PySem.W.mg_of X G a_fn_shortened,
    f_shortened_and := f_shortened_and,
    fd_shortened_and := fd_shortened_and,
    F_shortened_and := F_shortened_and,
    b_shortened_and := b_shortened_and,
    g_shortened_and := PySem.W.mg_of X G a_fn_shortened_and,
    f_shortened_twice := f_shortened_twice,
    fd_shortened_twice := fd_shortened_twice,
    F_shortened_twice := F_shortened_twice,
    b_shortened_twice := b_shortened_twice,
    g_shortened_twice := PySem.W.mg_of X G a_fn_shortened_twice,
    f_is_int := f_is_int,
    fd_is_int := fd_is_int,
    F_is_int := F_is_int,
    b_is_int := b_is_int,
    g_is_int := PySem.W.mg_of X G a_fn_is_int,
    f_is_row := f_is_row,
    fd_is_row := fd_is_row,
    F_is_row := F_is_row,
    b_is_row := b_is_row,
    g_is_row := PySem.W.mg_of X G a_fn_is_row,
    f_check_int := f_check_int,
    fd_check_int := fd_check_int,
    F_check_int := F_check_int,
    b_check_int := b_check_int,
    g_check_int := PySem.W.mg_of X G a_fn_check_int,
    f_ones := f_ones,
    fd_ones := fd_ones,
    F_ones := F_ones,
    b_ones := b_ones,
    g_ones := PySem.W.mg_of X G a_fn_ones,
    f_put_in := f_put_in,
    fd_put_in := fd_put_in,
    F_put_in := F_put_in,
    b_put_in := b_put_in,
    g_put_in := PySem.W.mg_of X G a_fn_put_in,
    f_p_init := f_p_init,
    fd_p_init := fd_p_init,
    F_p_init := F_p_init,
    b_p_init := b_p_init,
    m_p_init := ⟨a_fn_p_init, i_p_init, kp_p_init⟩,
    f_p_len := f_p_len,
    fd_p_len := fd_p_len,
    F_p_len := F_p_len,
    b_p_len := b_p_len,
    m_p_len := ⟨a_fn_p_len, i_p_len, kp_p_len⟩,
    f_p_iter := f_p_iter,
    fd_p_iter := fd_p_iter,
    F_p_iter := F_p_iter,
    b_p_iter := b_p_iter,
    m_p_iter := ⟨a_fn_p_iter, i_p_iter, kp_p_iter⟩,
    f_p_check_part := f_p_check_part,
    fd_p_check_part := fd_p_check_part,
    F_p_check_part := F_p_check_part,
    b_p_check_part := b_p_check_part,
    m_p_check_part := ⟨a_fn_p_check_part, i_p_check_part, kp_p_check_part⟩,
    f_p_check_parts := f_p_check_parts,
    fd_p_check_parts := fd_p_check_parts,
    F_p_check_parts := F_p_check_parts,
    b_p_check_parts := b_p_check_parts,
    m_p_check_parts := ⟨a_fn_p_check_parts, i_p_check_parts, kp_p_check_parts⟩,
    f_p_num := f_p_num,
    fd_p_num := fd_p_num,
    F_p_num := F_p_num,
    b_p_num := b_p_num,
    m_p_num := ⟨a_fn_p_num, i_p_num, kp_p_num⟩,
    f_p_unknown := f_p_unknown,
    fd_p_unknown := fd_p_unknown,
    F_p_unknown := F_p_unknown,
    b_p_unknown := b_p_unknown,
    m_p_unknown := ⟨a_fn_p_unknown, i_p_unknown, kp_p_unknown⟩,
    f_p_apply := f_p_apply,
    fd_p_apply := fd_p_apply,
    F_p_apply := F_p_apply,
    b_p_apply := b_p_apply,
    m_p_apply := ⟨a_fn_p_apply, i_p_apply, kp_p_apply⟩,
    f_p_part := f_p_part,
    fd_p_part := fd_p_part,
    F_p_part := F_p_part,
    b_p_part := b_p_part,
    m_p_part := ⟨a_fn_p_part, i_p_part, kp_p_part⟩,
    f_p_value := f_p_value,
    fd_p_value := fd_p_value,
    F_p_value := F_p_value,
    b_p_value := b_p_value,
    m_p_value := ⟨a_fn_p_value, i_p_value, kp_p_value⟩,
    f_p_reached := f_p_reached,
    fd_p_reached := fd_p_reached,
    F_p_reached := F_p_reached,
    b_p_reached := b_p_reached,
    m_p_reached := ⟨a_fn_p_reached, i_p_reached, kp_p_reached⟩,
    f_p_reached_by := f_p_reached_by,
    fd_p_reached_by := fd_p_reached_by,
    F_p_reached_by := F_p_reached_by,
    b_p_reached_by := b_p_reached_by,
    m_p_reached_by := ⟨a_fn_p_reached_by, i_p_reached_by, kp_p_reached_by⟩,
    f_p_unknowns := f_p_unknowns,
    fd_p_unknowns := fd_p_unknowns,
    F_p_unknowns := F_p_unknowns,
    b_p_unknowns := b_p_unknowns,
    m_p_unknowns := ⟨a_fn_p_unknowns, i_p_unknowns, kp_p_unknowns⟩,
    f_p_made := f_p_made,
    fd_p_made := fd_p_made,
    F_p_made := F_p_made,
    b_p_made := b_p_made,
    m_p_made := ⟨a_fn_p_made, i_p_made, kp_p_made⟩,
    f_p_word := f_p_word,
    fd_p_word := fd_p_word,
    F_p_word := F_p_word,
    b_p_word := b_p_word,
    m_p_word := ⟨a_fn_p_word, i_p_word, kp_p_word⟩,
    f_p_gets := f_p_gets,
    fd_p_gets := fd_p_gets,
    F_p_gets := F_p_gets,
    b_p_gets := b_p_gets,
    m_p_gets := ⟨a_fn_p_gets, i_p_gets, kp_p_gets⟩,
    f_law_draws := f_law_draws,
    fd_law_draws := fd_law_draws,
    F_law_draws := F_law_draws,
    b_law_draws := b_law_draws,
    g_law_draws := PySem.W.mg_of X G a_fn_law_draws,
    f_law_take := f_law_take,
    fd_law_take := fd_law_take,
    F_law_take := F_law_take,
    b_law_take := b_law_take,
    g_law_take := PySem.W.mg_of X G a_fn_law_take,
    f_law_word := f_law_word,
    fd_law_word := fd_law_word,
    F_law_word := F_law_word,
    b_law_word := b_law_word,
    g_law_word := PySem.W.mg_of X G a_fn_law_word,
    f_law_is_int := f_law_is_int,
    fd_law_is_int := fd_law_is_int,
    F_law_is_int := F_law_is_int,
    b_law_is_int := b_law_is_int,
    g_law_is_int := PySem.W.mg_of X G a_fn_law_is_int,
    f_law_op := f_law_op,
    fd_law_op := fd_law_op,
    F_law_op := F_law_op,
    b_law_op := b_law_op,
    g_law_op := PySem.W.mg_of X G a_fn_law_op,
    f_law_ops := f_law_ops,
    fd_law_ops := fd_law_ops,
    F_law_ops := F_law_ops,
    b_law_ops := b_law_ops,
    g_law_ops := PySem.W.mg_of X G a_fn_law_ops,
    f_law_term_rows := f_law_term_rows,
    fd_law_term_rows := fd_law_term_rows,
    F_law_term_rows := F_law_term_rows,
    b_law_term_rows := b_law_term_rows,
    g_law_term_rows := PySem.W.mg_of X G a_fn_law_term_rows,
    f_law_row_words := f_law_row_words,
    fd_law_row_words := fd_law_row_words,
    F_law_row_words := F_law_row_words,
    b_law_row_words := b_law_row_words,
    g_law_row_words := PySem.W.mg_of X G a_fn_law_row_words,
    f_law_keep := f_law_keep,
    fd_law_keep := fd_law_keep,
    F_law_keep := F_law_keep,
    b_law_keep := b_law_keep,
    g_law_keep := PySem.W.mg_of X G a_fn_law_keep,
    f_law_short := f_law_short,
    fd_law_short := fd_law_short,
    F_law_short := F_law_short,
    b_law_short := b_law_short,
    g_law_short := PySem.W.mg_of X G a_fn_law_short,
    f_law_apply := f_law_apply,
    fd_law_apply := fd_law_apply,
    F_law_apply := F_law_apply,
    b_law_apply := b_law_apply,
    g_law_apply := PySem.W.mg_of X G a_fn_law_apply,
    f_law_part := f_law_part,
    fd_law_part := fd_law_part,
    F_law_part := F_law_part,
    b_law_part := b_law_part,
    g_law_part := PySem.W.mg_of X G a_fn_law_part,
    f_law_asked := f_law_asked,
    fd_law_asked := fd_law_asked,
    F_law_asked := F_law_asked,
    b_law_asked := b_law_asked,
    g_law_asked := PySem.W.mg_of X G a_fn_law_asked,
    f_law_reach := f_law_reach,
    fd_law_reach := fd_law_reach,
    F_law_reach := F_law_reach,
    b_law_reach := b_law_reach,
    g_law_reach := PySem.W.mg_of X G a_fn_law_reach,
    f_law_gets := f_law_gets,
    fd_law_gets := fd_law_gets,
    F_law_gets := F_law_gets,
    b_law_gets := b_law_gets,
    g_law_gets := PySem.W.mg_of X G a_fn_law_gets,
    f_law_edge_rows := f_law_edge_rows,
    fd_law_edge_rows := fd_law_edge_rows,
    F_law_edge_rows := F_law_edge_rows,
    b_law_edge_rows := b_law_edge_rows,
    g_law_edge_rows := PySem.W.mg_of X G a_fn_law_edge_rows,
    f_law_all_made := f_law_all_made,
    fd_law_all_made := fd_law_all_made,
    F_law_all_made := F_law_all_made,
    b_law_all_made := b_law_all_made,
    g_law_all_made := PySem.W.mg_of X G a_fn_law_all_made,
    f_law_told_parts := f_law_told_parts,
    fd_law_told_parts := fd_law_told_parts,
    F_law_told_parts := F_law_told_parts,
    b_law_told_parts := b_law_told_parts,
    g_law_told_parts := PySem.W.mg_of X G a_fn_law_told_parts,
    f_law_right_words := f_law_right_words,
    fd_law_right_words := fd_law_right_words,
    F_law_right_words := F_law_right_words,
    b_law_right_words := b_law_right_words,
    g_law_right_words := PySem.W.mg_of X G a_fn_law_right_words,
    f_law_made_of := f_law_made_of,
    fd_law_made_of := fd_law_made_of,
    F_law_made_of := F_law_made_of,
    b_law_made_of := b_law_made_of,
    g_law_made_of := PySem.W.mg_of X G a_fn_law_made_of,
    f_law_put_in_told := f_law_put_in_told,
    fd_law_put_in_told := fd_law_put_in_told,
    F_law_put_in_told := F_law_put_in_told,
    b_law_put_in_told := b_law_put_in_told,
    g_law_put_in_told := PySem.W.mg_of X G a_fn_law_put_in_told,
    f_law_filled := f_law_filled,
    fd_law_filled := fd_law_filled,
    F_law_filled := F_law_filled,
    b_law_filled := b_law_filled,
    g_law_filled := PySem.W.mg_of X G a_fn_law_filled,
    f_law_refused := f_law_refused,
    fd_law_refused := fd_law_refused,
    F_law_refused := F_law_refused,
    b_law_refused := b_law_refused,
    g_law_refused := PySem.W.mg_of X G a_fn_law_refused,
    f_law_full := f_law_full,
    fd_law_full := fd_law_full,
    F_law_full := F_law_full,
    b_law_full := b_law_full,
    g_law_full := PySem.W.mg_of X G a_fn_law_full,
    f_law := f_law,
    fd_law := _,
    F_law := F_law,
    b_law := F_law.binds (ps := ["_law_script"]) fun _ _ _ _ _ _ us hl => match us, hl with | [_], _ => rfl,
    g_law := PySem.W.mg_of X G a_fn_law,
    C := C,
    cl := ⟨pg, hd_, po, sa⟩,
    g_Pool := PySem.W.mg_of X G aC,
    M_Pool := ⟨mkI, a_fn_p_init, i_p_init, kc⟩,
    nA_width := nA_width,
    nA__most := nA__most,
    nA__parts := nA__parts,
    nA__numbers := nA__numbers,
    t_MOST_PARTS := t_MOST_PARTS,
    c_MOST_PARTS := PySem.W.mg_of X G ct_MOST_PARTS,
    t_LAST_UNKNOWN := t_LAST_UNKNOWN,
    c_LAST_UNKNOWN := PySem.W.mg_of X G ct_LAST_UNKNOWN,
    a_OPS := a_OPS,
    c_OPS := PySem.W.mg_of X G ca_OPS,
    v_OPS := cv_OPS,
    a_EITHER_WAY := a_EITHER_WAY,
    c_EITHER_WAY := PySem.W.mg_of X G ca_EITHER_WAY,
    v_EITHER_WAY := cv_EITHER_WAY,
    n_len := PySem.W.mg_none_of X G z_len,
    n_list := PySem.W.mg_none_of X G z_list,
    n_tuple := PySem.W.mg_none_of X G z_tuple,
    n_int := PySem.W.mg_none_of X G z_int,
    n_min := PySem.W.mg_none_of X G z_min,
    n_range := PySem.W.mg_none_of X G z_range,
    n_isinstance := PySem.W.mg_none_of X G z_isinstance,
    n_sorted := PySem.W.mg_none_of X G z_sorted,
    n_bool := PySem.W.mg_none_of X G z_bool,
    n_iter := PySem.W.mg_none_of X G z_iter,
    C_BadPart := C_BadPart,
    g_BadPart := PySem.W.mg_of X G xa_BadPart,
    k_BadPart := xk_BadPart,
    x_BadPart := xx_BadPart,
    sb_BadPart := xb_BadPart,
    ty_BadPart := xt_BadPart,
    te_BadPart := exm_own xb_BadPart xi_BadPart xt_BadPart xs_BadPart,
    C_TooMany := C_TooMany,
    g_TooMany := PySem.W.mg_of X G xa_TooMany,
    o_TooMany := oexE_of xe_TooMany xhd_TooMany xsa_TooMany xb_TooMany xt_TooMany xk_TooMany,
    ii_TooMany := ii_TooMany,
    it_TooMany := it_TooMany,
    xf_TooMany := ⟨xga_TooMany, xgg_TooMany, xb_TooMany, xhd_TooMany⟩,
    nf_TooMany := xnf_TooMany,
    te_TooMany := exm_own xb_TooMany xi_TooMany xt_TooMany xs_TooMany }, rfl, rfl⟩
def spL (K : PySem.W.Frag) : Sp := fun vs H Q _ => ∃ (a : Addr) (xs : List Int), vs = [.ref a] ∧ SqL K H a (xs.map V.int) ∧ xs.length ≤ 63 ∧ ∀ H', Q (.bl true) H'
theorem walk {l : PySem.W.OpenLaw} {q : Program} {loose : List Str} {XP : (Str → Option Value) → Heap → Prop} {YP : World → Heap → Prop} {d : DefRec} {K : Params → PySem.W.Frag} (hn : l.most = some 63) (hdf : d.params.defaults = [])
    (hY : ∀ (w : World) (h : Heap), YP w h → (K w.params).In h)
    (F : ∀ (w : World) (mg : Str → Option Value) (fa : Addr) (h : Heap), (K w.params).In h → h.Ns mainGlobals mg → mg d.name = some (.ref fa) →
      ∃ fd : FuncData, (∀ (s : Shared) (u : Value), BindsTo s fd ⟨[u], []⟩ [("_law_script", u)]) ∧ ∀ base : Heap, (K w.params).In base → base.Ns mainGlobals mg → FnOk l.prog w (K w.params) mg base CX0 9 fa fd ["_law_script"] (spL (K w.params))) :
    PySem.W.WalkO q loose XP YP l.row.toRowW d [] (fun f vs => PySem.call f vs) :=
  L2.walk_of (n := 63) (k := 9) (x := "_law_script") (CX := fun _ => CX0) (sp := fun w => spL (K w.params)) hn (by decide) hdf ⟨rfl, by decide, by decide⟩ hY F (fun _ _ a ns hl _ hS => ⟨a, ns, rfl, hS, hl, fun _ => rfl⟩) fun _ _ _ _ _ z => z
/-- the law by what the top has left -/
theorem law_of {P : Program} {w : World} {K : PySem.W.Frag} {mg : Str → Option Value} {fa fl : Addr} {an : Option Addr} {kV dc pm cd ct : Value} (hfa : mg "law" = some (.ref fa))
    (h : ∃ T : Txt K mg, T.f_law = fl ∧ T.fd_law = PySem.W.fnOf "law" "law" (defArgs s_law) (defBody s_law) (defScope s_law) .none kV dc pm an cd ct) :
    ∃ fd : FuncData, (∀ (s : Shared) (u : Value), BindsTo s fd ⟨[u], []⟩ [("_law_script", u)]) ∧ ∀ base : Heap, K.In base → base.Ns mainGlobals mg → FnOk P w K mg base CX0 9 fa fd ["_law_script"] (spL K) := by
  obtain ⟨T, e1, e2⟩ := h
  have e := hfa.symm.trans T.g_law
  cases e
  refine ⟨T.fd_law, fun s v => by rw [e2]; exact .of_eq rfl, fun base _ _ => ?_⟩
  exact ok_law (P := P) (w := w) (base := base) T
end My

open PySem PySem.W PyProof.Rows in
set_option maxRecDepth 100000 in
set_option maxHeartbeats 0 in
theorem PySem.Challenge.cw_selfwritten_k01_parts_once_and_their_wor_holds : PySem.Challenge.rw_selfwritten_k01_parts_once_and_their_wor.Holds := by
  w_on; o_law; k_head; (case hw => w_witness2)
  k_fill
  refine My.walk (l := PySem.Challenge.rw_selfwritten_k01_parts_once_and_their_wor) rfl rfl (fun w h Y => PySem.W.kIn_of Y) ?F
  case F =>
    intro w mg fa h KX G hmg
    refine' My.law_of hmg (My.all_mk KX G ?xa_TooMany ?ii_TooMany ?it_TooMany ?m_TooMany_init ?a_fn_op_word ?m_op_word ?a_fn_shortened ?m_shortened ?a_fn_shortened_and ?m_shortened_and ?a_fn_shortened_twice ?m_shortened_twice ?a_fn_is_int ?m_is_int ?a_fn_is_row ?m_is_row ?a_fn_check_int ?m_check_int ?a_fn_ones ?m_ones ?a_fn_put_in ?m_put_in ?a_fn_p_init ?i_p_init ?kp_p_init ?m_p_init ?a_fn_p_len ?i_p_len ?kp_p_len ?m_p_len ?a_fn_p_iter ?i_p_iter ?kp_p_iter ?m_p_iter ?a_fn_p_check_part ?i_p_check_part ?kp_p_check_part ?m_p_check_part ?a_fn_p_check_parts ?i_p_check_parts ?kp_p_check_parts ?m_p_check_parts ?a_fn_p_num ?i_p_num ?kp_p_num ?m_p_num ?a_fn_p_unknown ?i_p_unknown ?kp_p_unknown ?m_p_unknown ?a_fn_p_apply ?i_p_apply ?kp_p_apply ?m_p_apply ?a_fn_p_part ?i_p_part ?kp_p_part ?m_p_part ?a_fn_p_value ?i_p_value ?kp_p_value ?m_p_value ?a_fn_p_reached ?i_p_reached ?kp_p_reached ?m_p_reached ?a_fn_p_reached_by ?i_p_reached_by ?kp_p_reached_by ?m_p_reached_by ?a_fn_p_unknowns ?i_p_unknowns ?kp_p_unknowns ?m_p_unknowns ?a_fn_p_made ?i_p_made ?kp_p_made ?m_p_made ?a_fn_p_word ?i_p_word ?kp_p_word ?m_p_word ?a_fn_p_gets ?i_p_gets ?kp_p_gets ?m_p_gets ?a_fn_law_draws ?m_law_draws ?a_fn_law_take ?m_law_take ?a_fn_law_word ?m_law_word ?a_fn_law_is_int ?m_law_is_int ?a_fn_law_op ?m_law_op ?a_fn_law_ops ?m_law_ops ?a_fn_law_term_rows ?m_law_term_rows ?a_fn_law_row_words ?m_law_row_words ?a_fn_law_keep ?m_law_keep ?a_fn_law_short ?m_law_short ?a_fn_law_apply ?m_law_apply ?a_fn_law_part ?m_law_part ?a_fn_law_asked ?m_law_asked ?a_fn_law_reach ?m_law_reach ?a_fn_law_gets ?m_law_gets ?a_fn_law_edge_rows ?m_law_edge_rows ?a_fn_law_all_made ?m_law_all_made ?a_fn_law_told_parts ?m_law_told_parts ?a_fn_law_right_words ?m_law_right_words ?a_fn_law_made_of ?m_law_made_of ?a_fn_law_put_in_told ?m_law_put_in_told ?a_fn_law_filled ?m_law_filled ?a_fn_law_refused ?m_law_refused ?a_fn_law_full ?m_law_full ?a_fn_law ?l_law ?c_law ?kp_law ?aC ?pg ?hd_ ?po ?sa ?mkI ?kc ?nA_width ?nA__most ?nA__parts ?nA__numbers ?ct_MOST_PARTS ?ct_LAST_UNKNOWN ?ca_OPS ?cv_OPS ?ca_EITHER_WAY ?cv_EITHER_WAY ?z_len ?z_list ?z_tuple ?z_int ?z_min ?z_range ?z_isinstance ?z_sorted ?z_bool ?z_iter ?xa_BadPart ?xk_BadPart ?xx_BadPart ?xb_BadPart ?xt_BadPart ?xi_BadPart ?xs_BadPart ?xe_TooMany ?xsa_TooMany ?xk_TooMany ?xb_TooMany ?xt_TooMany ?xi_TooMany ?xs_TooMany ?xhd_TooMany ?xga_TooMany ?xgg_TooMany ?xnf_TooMany)
    (case xa_TooMany => k_is)
    (case aC => k_is)
    (case ii_TooMany => k_is)
    (case it_TooMany => k_is)
    (case m_TooMany_init => (refine' My.mk_TooMany_init ?l ?c ?k; (case l => k_is); (case c => k_is); (case k => k_is)))
    (case a_fn_op_word => k_is)
    (case m_op_word => (refine' My.mk_op_word ?l ?c ?k; (case l => k_is); (case c => k_is); (case k => k_is)))
    (case a_fn_shortened => k_is)
    (case m_shortened => (refine' My.mk_shortened ?l ?c ?k; (case l => k_is); (case c => k_is); (case k => k_is)))
    (case a_fn_shortened_and => k_is)
    (case m_shortened_and => (refine' My.mk_shortened_and ?l ?c ?k; (case l => k_is); (case c => k_is); (case k => k_is)))
    (case a_fn_shortened_twice => k_is)
    (case m_shortened_twice => (refine' My.mk_shortened_twice ?l ?c ?k; (case l => k_is); (case c => k_is); (case k => k_is)))
    (case a_fn_is_int => k_is)
    (case m_is_int => (refine' My.mk_is_int ?l ?c ?k; (case l => k_is); (case c => k_is); (case k => k_is)))
    (case a_fn_is_row => k_is)
    (case m_is_row => (refine' My.mk_is_row ?l ?c ?k; (case l => k_is); (case c => k_is); (case k => k_is)))
    (case a_fn_check_int => k_is)
    (case m_check_int => (refine' My.mk_check_int ?l ?c ?k; (case l => k_is); (case c => k_is); (case k => k_is)))
    (case a_fn_ones => k_is)
    (case m_ones => (refine' My.mk_ones ?l ?c ?k; (case l => k_is); (case c => k_is); (case k => k_is)))
    (case a_fn_put_in => k_is)
    (case m_put_in => (refine' My.mk_put_in ?l ?c ?k; (case l => k_is); (case c => k_is); (case k => k_is)))
    (case a_fn_p_init => k_is)
    (case i_p_init => k_is)
    (case kp_p_init => k_is)
    (case m_p_init => (refine' My.mk_p_init ?l ?c ?k; (case l => k_is); (case c => k_is); (case k => k_is)))
    (case a_fn_p_len => k_is)
    (case i_p_len => k_is)
    (case kp_p_len => k_is)
    (case m_p_len => (refine' My.mk_p_len ?l ?c ?k; (case l => k_is); (case c => k_is); (case k => k_is)))
    (case a_fn_p_iter => k_is)
    (case i_p_iter => k_is)
    (case kp_p_iter => k_is)
    (case m_p_iter => (refine' My.mk_p_iter ?l ?c ?k; (case l => k_is); (case c => k_is); (case k => k_is)))
    (case a_fn_p_check_part => k_is)
    (case i_p_check_part => k_is)
    (case kp_p_check_part => k_is)
    (case m_p_check_part => (refine' My.mk_p_check_part ?l ?c ?k; (case l => k_is); (case c => k_is); (case k => k_is)))
    (case a_fn_p_check_parts => k_is)
    (case i_p_check_parts => k_is)
    (case kp_p_check_parts => k_is)
    (case m_p_check_parts => (refine' My.mk_p_check_parts ?l ?c ?k; (case l => k_is); (case c => k_is); (case k => k_is)))
    (case a_fn_p_num => k_is)
    (case i_p_num => k_is)
    (case kp_p_num => k_is)
    (case m_p_num => (refine' My.mk_p_num ?l ?c ?k; (case l => k_is); (case c => k_is); (case k => k_is)))
    (case a_fn_p_unknown => k_is)
    (case i_p_unknown => k_is)
    (case kp_p_unknown => k_is)
    (case m_p_unknown => (refine' My.mk_p_unknown ?l ?c ?k; (case l => k_is); (case c => k_is); (case k => k_is)))
    (case a_fn_p_apply => k_is)
    (case i_p_apply => k_is)
    (case kp_p_apply => k_is)
    (case m_p_apply => (refine' My.mk_p_apply ?l ?c ?k; (case l => k_is); (case c => k_is); (case k => k_is)))
    (case a_fn_p_part => k_is)
    (case i_p_part => k_is)
    (case kp_p_part => k_is)
    (case m_p_part => (refine' My.mk_p_part ?l ?c ?k; (case l => k_is); (case c => k_is); (case k => k_is)))
    (case a_fn_p_value => k_is)
    (case i_p_value => k_is)
    (case kp_p_value => k_is)
    (case m_p_value => (refine' My.mk_p_value ?l ?c ?k; (case l => k_is); (case c => k_is); (case k => k_is)))
    (case a_fn_p_reached => k_is)
    (case i_p_reached => k_is)
    (case kp_p_reached => k_is)
    (case m_p_reached => (refine' My.mk_p_reached ?l ?c ?k; (case l => k_is); (case c => k_is); (case k => k_is)))
    (case a_fn_p_reached_by => k_is)
    (case i_p_reached_by => k_is)
    (case kp_p_reached_by => k_is)
    (case m_p_reached_by => (refine' My.mk_p_reached_by ?l ?c ?k; (case l => k_is); (case c => k_is); (case k => k_is)))
    (case a_fn_p_unknowns => k_is)
    (case i_p_unknowns => k_is)
    (case kp_p_unknowns => k_is)
    (case m_p_unknowns => (refine' My.mk_p_unknowns ?l ?c ?k; (case l => k_is); (case c => k_is); (case k => k_is)))
    (case a_fn_p_made => k_is)
    (case i_p_made => k_is)
    (case kp_p_made => k_is)
    (case m_p_made => (refine' My.mk_p_made ?l ?c ?k; (case l => k_is); (case c => k_is); (case k => k_is)))
    (case a_fn_p_word => k_is)
    (case i_p_word => k_is)
    (case kp_p_word => k_is)
    (case m_p_word => (refine' My.mk_p_word ?l ?c ?k; (case l => k_is); (case c => k_is); (case k => k_is)))
    (case a_fn_p_gets => k_is)
    (case i_p_gets => k_is)
    (case kp_p_gets => k_is)
    (case m_p_gets => (refine' My.mk_p_gets ?l ?c ?k; (case l => k_is); (case c => k_is); (case k => k_is)))
    (case a_fn_law_draws => k_is)
    (case m_law_draws => (refine' My.mk_law_draws ?l ?c ?k; (case l => k_is); (case c => k_is); (case k => k_is)))
    (case a_fn_law_take => k_is)
    (case m_law_take => (refine' My.mk_law_take ?l ?c ?k; (case l => k_is); (case c => k_is); (case k => k_is)))
    (case a_fn_law_word => k_is)
    (case m_law_word => (refine' My.mk_law_word ?l ?c ?k; (case l => k_is); (case c => k_is); (case k => k_is)))
    (case a_fn_law_is_int => k_is)
    (case m_law_is_int => (refine' My.mk_law_is_int ?l ?c ?k; (case l => k_is); (case c => k_is); (case k => k_is)))
    (case a_fn_law_op => k_is)
    (case m_law_op => (refine' My.mk_law_op ?l ?c ?k; (case l => k_is); (case c => k_is); (case k => k_is)))
    (case a_fn_law_ops => k_is)
    (case m_law_ops => (refine' My.mk_law_ops ?l ?c ?k; (case l => k_is); (case c => k_is); (case k => k_is)))
    (case a_fn_law_term_rows => k_is)
    (case m_law_term_rows => (refine' My.mk_law_term_rows ?l ?c ?k; (case l => k_is); (case c => k_is); (case k => k_is)))
    (case a_fn_law_row_words => k_is)
    (case m_law_row_words => (refine' My.mk_law_row_words ?l ?c ?k; (case l => k_is); (case c => k_is); (case k => k_is)))
    (case a_fn_law_keep => k_is)
    (case m_law_keep => (refine' My.mk_law_keep ?l ?c ?k; (case l => k_is); (case c => k_is); (case k => k_is)))
    (case a_fn_law_short => k_is)
    (case m_law_short => (refine' My.mk_law_short ?l ?c ?k; (case l => k_is); (case c => k_is); (case k => k_is)))
    (case a_fn_law_apply => k_is)
    (case m_law_apply => (refine' My.mk_law_apply ?l ?c ?k; (case l => k_is); (case c => k_is); (case k => k_is)))
    (case a_fn_law_part => k_is)
    (case m_law_part => (refine' My.mk_law_part ?l ?c ?k; (case l => k_is); (case c => k_is); (case k => k_is)))
    (case a_fn_law_asked => k_is)
    (case m_law_asked => (refine' My.mk_law_asked ?l ?c ?k; (case l => k_is); (case c => k_is); (case k => k_is)))
    (case a_fn_law_reach => k_is)
    (case m_law_reach => (refine' My.mk_law_reach ?l ?c ?k; (case l => k_is); (case c => k_is); (case k => k_is)))
    (case a_fn_law_gets => k_is)
    (case m_law_gets => (refine' My.mk_law_gets ?l ?c ?k; (case l => k_is); (case c => k_is); (case k => k_is)))
    (case a_fn_law_edge_rows => k_is)
    (case m_law_edge_rows => (refine' My.mk_law_edge_rows ?l ?c ?k; (case l => k_is); (case c => k_is); (case k => k_is)))
    (case a_fn_law_all_made => k_is)
    (case m_law_all_made => (refine' My.mk_law_all_made ?l ?c ?k; (case l => k_is); (case c => k_is); (case k => k_is)))
    (case a_fn_law_told_parts => k_is)
    (case m_law_told_parts => (refine' My.mk_law_told_parts ?l ?c ?k; (case l => k_is); (case c => k_is); (case k => k_is)))
    (case a_fn_law_right_words => k_is)
    (case m_law_right_words => (refine' My.mk_law_right_words ?l ?c ?k; (case l => k_is); (case c => k_is); (case k => k_is)))
    (case a_fn_law_made_of => k_is)
    (case m_law_made_of => (refine' My.mk_law_made_of ?l ?c ?k; (case l => k_is); (case c => k_is); (case k => k_is)))
    (case a_fn_law_put_in_told => k_is)
    (case m_law_put_in_told => (refine' My.mk_law_put_in_told ?l ?c ?k; (case l => k_is); (case c => k_is); (case k => k_is)))
    (case a_fn_law_filled => k_is)
    (case m_law_filled => (refine' My.mk_law_filled ?l ?c ?k; (case l => k_is); (case c => k_is); (case k => k_is)))
    (case a_fn_law_refused => k_is)
    (case m_law_refused => (refine' My.mk_law_refused ?l ?c ?k; (case l => k_is); (case c => k_is); (case k => k_is)))
    (case a_fn_law_full => k_is)
    (case m_law_full => (refine' My.mk_law_full ?l ?c ?k; (case l => k_is); (case c => k_is); (case k => k_is)))
    (case a_fn_law => k_is)
    (case l_law => k_is)
    (case c_law => k_is)
    (case kp_law => k_is)
    (case pg => k_is)
    (case hd_ => k_is)
    (case po => k_is)
    (case sa => k_is)
    (case mkI => k_is)
    (case kc => k_is)
    (case nA_width => k_is)
    (case nA__most => k_is)
    (case nA__parts => k_is)
    (case nA__numbers => k_is)
    (case ct_MOST_PARTS => k_is)
    (case ct_LAST_UNKNOWN => k_is)
    (case ca_OPS => k_is)
    (case cv_OPS => (refine' My.tup_kit ?lk ?z ?v; (case lk => k_is); (case z => (show _ ≤ _; decide +kernel)); (case v => exact (.cons ⟨_, rfl⟩ (.cons ⟨_, rfl⟩ (.cons ⟨_, rfl⟩ (.cons ⟨_, rfl⟩ (.cons ⟨_, rfl⟩ (.cons ⟨_, rfl⟩ (.cons ⟨_, rfl⟩ .nil))))))))))
    (case ca_EITHER_WAY => k_is)
    (case cv_EITHER_WAY => (refine' My.tup_kit ?lk ?z ?v; (case lk => k_is); (case z => (show _ ≤ _; decide +kernel)); (case v => exact (.cons ⟨_, rfl⟩ (.cons ⟨_, rfl⟩ (.cons ⟨_, rfl⟩ (.cons ⟨_, rfl⟩ (.cons ⟨_, rfl⟩ .nil))))))))
    (case z_len => k_is)
    (case z_list => k_is)
    (case z_tuple => k_is)
    (case z_int => k_is)
    (case z_min => k_is)
    (case z_range => k_is)
    (case z_isinstance => k_is)
    (case z_sorted => k_is)
    (case z_bool => k_is)
    (case z_iter => k_is)
    (case xa_BadPart => k_is)
    (case xk_BadPart => k_is)
    (case xx_BadPart => k_exc)
    (case xb_BadPart => k_is)
    (case xt_BadPart => k_is)
    (case xi_BadPart => k_is)
    (case xs_BadPart => k_is)
    (case xe_TooMany => kx_is)
    (case xsa_TooMany => k_is)
    (case xk_TooMany => k_is)
    (case xb_TooMany => k_is)
    (case xt_TooMany => k_is)
    (case xi_TooMany => k_is)
    (case xs_TooMany => k_is)
    (case xhd_TooMany => k_is)
    (case xga_TooMany => k_is)
    (case xgg_TooMany => k_is)
    (case xnf_TooMany => k_is)
