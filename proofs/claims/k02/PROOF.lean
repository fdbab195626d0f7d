import PyProof.Rows.All
import Wide.All
import OpenK.AllK
import Wide.FinOn
import HandS.ForMost
import HandS.Exc
import HandS.ExcOwn
import HandS.TryOnly
import HandS.WordsExc
import HandS.IsInst
import HandS.DictComp
import HandS.Conv
import HandS.More
import HandS.SortInts
import HandS.Small
import HandS.Evl
import KE.KBits
import HandS.OwnIter
import HandS.IterNext
import PySem.Challenge.RW_selfwritten_k02_low_bits_at_every_width
set_option Elab.async false
set_option linter.all false
set_option maxRecDepth 100000
set_option maxHeartbeats 4000000
/-! Kit -/
/-! own rules over the hand layer -/
namespace My
open PySem PySem.Spec PyProof.Rows L2
section
variable {X : Cx}
theorem callR_imp {f : Value} {r r' : List V → Hp → VK → Prop} (h : CallR X f r) (i : ∀ xs H Q, r' xs H Q → r xs H Q) : CallR X f r' :=
  fun pins s σ H xs us Q I rv q => h pins s σ H xs us Q I rv (i xs H Q q)
theorem call_intI : CallR X (.type "int") (fun xs H Q => ∃ i, xs = [.int i] ∧ Q (.int i) H) := callR_imp call_int1 fun _ _ _ h => .inl h
theorem call_intB : CallR X (.type "int") (fun xs H Q => ∃ k, xs = [.bl k] ∧ Q (.int (if k then 1 else 0)) H) := callR_imp call_int1 fun _ _ _ h => .inr h
theorem call_lenL : CallR X (.builtin "len") (fun xs H Q => ∃ p ys, xs = [.ref p] ∧ SqL X.K H p ys ∧ Q (.int ys.length) H) := callR_imp call_len_seq fun _ _ _ ⟨p, ys, e, h, q⟩ => ⟨p, ys, e, .inl h, q⟩
theorem call_lenT : CallR X (.builtin "len") (fun xs H Q => ∃ p ys, xs = [.ref p] ∧ SqT X.K H p ys ∧ Q (.int ys.length) H) := callR_imp call_len_seq fun _ _ _ ⟨p, ys, e, h, q⟩ => ⟨p, ys, e, .inr h, q⟩
theorem call_listL : CallR X (.type "list") (fun xs H Q => ∃ p ys, xs = [.ref p] ∧ SqL X.K H p ys ∧ ∀ l, H l = none → Q (.ref l) (upd H l (.lst ys))) := callR_imp call_list_of fun _ _ _ ⟨p, ys, e, h, q⟩ => ⟨p, ys, e, .inl h, q⟩
theorem call_listT : CallR X (.type "list") (fun xs H Q => ∃ p ys, xs = [.ref p] ∧ SqT X.K H p ys ∧ ∀ l, H l = none → Q (.ref l) (upd H l (.lst ys))) := callR_imp call_list_of fun _ _ _ ⟨p, ys, e, h, q⟩ => ⟨p, ys, e, .inr h, q⟩
theorem call_tupleL : CallR X (.type "tuple") (fun xs H Q => ∃ p ys, xs = [.ref p] ∧ SqL X.K H p ys ∧ ∀ l, H l = none → Q (.ref l) (upd H l (.tup ys))) := callR_imp call_tuple_of fun _ _ _ ⟨p, ys, e, h, q⟩ => ⟨p, ys, e, .inl ⟨h, q⟩⟩
theorem call_isTy : CallR X (.builtin "isinstance") (fun xs H Q => ∃ x t c, xs = [x, .ty c] ∧ TyX X.K H x (.type t) ∧ ∃ b, kitB t c = some b ∧ Q (.bl b) H) :=
  callR_imp call_isi fun _ _ _ ⟨x, t, c, e, h, b, k, q⟩ => ⟨x, .ty c, .type t, .type c, b, e, .ty c, h, kit_ty k, q⟩
theorem call_isTy2 : CallR X (.builtin "isinstance") (fun xs H Q => ∃ x t c d tp, xs = [x, .ref tp] ∧ H tp = some (.tup [.ty c, .ty d]) ∧ TyX X.K H x (.type t) ∧ ∃ b b', kitB t c = some b ∧ kitB t d = some b' ∧ Q (.bl (b || b')) H) :=
  callR_imp call_isiT fun _ _ _ ⟨x, t, c, d, tp, e, ht, h, b, b', k, k', q⟩ => ⟨x, tp, [.ty c, .ty d], .type t, [.type c, .type d], (b || b'), e, ht, .cons (.ty c) (.cons (.ty d) .nil), h,
    kitAny_cons (kit_ty k) (fun z => by rw [z]; exact kitAny_cons (kit_ty k') (fun z' => by rw [z']; exact kitAny_nil) (fun z' => by rw [z']; rfl)) (fun z => by rw [z]; rfl), q⟩
theorem k_ii : kitB "int" "int" = some true := by decide +kernel
theorem k_bi : kitB "bool" "int" = some true := by decide +kernel
theorem k_ni : kitB "NoneType" "int" = some false := by decide +kernel
theorem k_si : kitB "str" "int" = some false := by decide +kernel
theorem k_li : kitB "list" "int" = some false := by decide +kernel
theorem k_ib : kitB "int" "bool" = some false := by decide +kernel
theorem k_bb : kitB "bool" "bool" = some true := by decide +kernel
theorem k_ll : kitB "list" "list" = some true := by decide +kernel
theorem k_lt : kitB "list" "tuple" = some false := by decide +kernel
theorem k_tl : kitB "tuple" "list" = some false := by decide +kernel
theorem k_tt : kitB "tuple" "tuple" = some true := by decide +kernel
theorem k_nl : kitB "NoneType" "list" = some false := by decide +kernel
theorem k_nt : kitB "NoneType" "tuple" = some false := by decide +kernel
theorem pe_fldA {e : Expr} {ta : TE} {f : Str} {pos : Pos} (he : PE X e ta) (hb : attributeBase e f X.env (eval e X.env) = eval e X.env := by rfl) : PE X (.Attribute e f pos) (tFld X.K ta f) := pe_fld he hb
/-- X(), X an own exception class without own __init__ -/
theorem pmk_0 {C : Addr} {bmB : List Value} {B newId initId : String} {x : Str} {p pos : Pos} (F : ExcBaseFacts B newId initId bmB) (q : PySem.W.excIn X.K C bmB newId = true) (gC : X.mg x = some (.ref C))
    (kC : PySem.W.keepIn X.K (.ref C) = true) (r : Raises X (.ref C)) (hg : Gl X x) (hdb : (x == ("__debug__" : Str)) = false := by decide) :
    PMk X (.Call (.Name x p) [] [] pos) (fun _ H Q => Q (.ref C) none H) := by
  intro pins s σ H Q I h
  refine wpAny_Call_Name_kw (ld_glob I hg gC ?_ hdb)
  refine PySem.W.callWith_K0 I.kIn kC ?_
  obtain ⟨bm, N, nm, qn, bs, hdct, sn, sub, ab, col, dd, k0, k1, k2, k3, k5, mN, hC, hN, hni, T⟩ := exc_obj I.kIn q
  refine wpAny_call_exc_subT F T hC hN hni (fun h' e hm => ?_) (Nat.zero_le _)
  exact mk_of I hm r h (I.hok.gone hm.new)
theorem sw_trueD {kx vx : Expr} {gs : List Comprehension} {scope : Scope} {pos py : Pos} {y : Str} {l : Nat} {env : Env} (hk : env.scope.kind = .function) (hy : env.scope.names.lookup y = some .local) (hl : (py.line == pos.line) = true)
    (ha : (scope.names.any fun (n, k) => n == y && (k == .local || k == .cell)) = false) : swapsWith (.DictComp kx vx gs scope pos) (some (.Name y py)) l env = pure true := by
  have ky : env.kindOf y = some .local := hy
  have hb : env.blockKind = .function := by unfold Env.blockKind; rw [hk]; rfl
  unfold swapsWith
  simp only [hb, ky, ha, Expr.pos, hl]
  rfl
theorem ps_setDc {i : Nat} {y : Str} {py : Pos} {kx vx tg iter : Expr} {ifs : List Expr} {scope : Scope} {own : List (Str × Nat)} {pos spos : Pos} {wi : TI} {g : TG} {tt : TT} {tk tv : TE} (hc : X.calm = true) (hN : X.N.Nodup) (hy : X.N[i]? = some y) (hyl : X.env.scope.names.lookup y = some .local)
    (hsw : swapsWith (.DictComp kx vx [⟨tg, iter, ifs, 0⟩] scope pos) (some (.Name y py)) spos.line X.env = pure true) (hi : PI X tg iter wi) (ok : BlkOk X.N X.env.scope scope own)
    (hg : ∀ (s : Shared) (H : Hp) (C : Addr) (cl : List (Str × Addr)) (fp : List Addr), PG (X.blk s H scope (compEnvC scope cl C X.env) fp) tg g) (ht : ∀ (s : Shared) (H : Hp) (C : Addr) (cl : List (Str × Addr)) (fp : List Addr), PTs (X.blk s H scope (compEnvC scope cl C X.env) fp) ifs tt)
    (hk : ∀ (s : Shared) (H : Hp) (C : Addr) (cl : List (Str × Addr)) (fp : List Addr), PE (X.blk s H scope (compEnvC scope cl C X.env) fp) kx tk)
    (he : ∀ (s : Shared) (H : Hp) (C : Addr) (cl : List (Str × Addr)) (fp : List Addr), PE (X.blk s H scope (compEnvC scope cl C X.env) fp) vx tv) (hs : ∀ x, foldedSetIterable iter X.env x = pure x := by intro _; rfl) :
    PS X (.Assign [.Name y py] (.DictComp kx vx [⟨tg, iter, ifs, 0⟩] scope pos) spos) (tAsg (tDc wi g tt tk tv (own.map (·.2))) (gName i)) := by
  refine ⟨fun pins s σ H D I h => ?_⟩
  rw [exec_Assign_Name_used _ _ _ _ hsw]
  refine wpAny_bind (wpAny_standAt (wpAny_bind ?_))
  show wpAny _ X.A (do let _ ← comprehension (.DictComp kx vx [⟨tg, iter, ifs, 0⟩] scope pos) scope X.env (firstIterPos [⟨tg, iter, ifs, 0⟩] pos) (newDict #[]) false (eval iter X.env) (some (assign (.Name y py) X.env))) _ _ s
  have h : tDc wi g tt tk tv (own.map (·.2)) σ H (fun x H1 => gName i x σ H1 D.nx) := h
  refine wpAny_bind (thn (dc_core (Qf := fun _ s' => SP X pins D .next s') hc hN I hi ok hg ht hk he hs h fun L C s' m H' I' q hn f => ?_) fun _ s' hq => wpAny_pure (wpAny_pure hq))
  show wpAny _ _ (assign (.Name y py) X.env (.ref L)) _ _ _
  refine wpAny_assign_Name (store_ok2 (v := V.ref L) I' hN hy (.inl hyl) rfl (fun s2 I2 ⟨a, sb, ha⟩ => ?_) (.inr hyl))
  obtain ⟨f0, f1, f2, f3, f4, f5⟩ := f
  have haC : C ≠ a := by
    rcases ha with z | z
    · rw [z]; exact f1
    · exact fun e => f4 y a z e.symm
  refine ⟨m, hn.sameBut sb haC, fun h3 sb3 => ?_⟩
  exact ⟨_, H', I2.turned (t' := s2.toks) (fun b o hb e => (sb3.2 b hb).trans e) f0 f1 f3 f4 f5, q⟩
end
end My

/-! Kit2 -/
/-! len(o), list(o) of an own class with __len__, __iter__ -/
namespace My
open PySem PySem.Spec L2
section
variable {X : Cx} {pins : List (Addr × Obj)} {σ : L2.St} {H : Hp} {s : Shared}
/-- a def called from within a built-in -/
theorem run_in {A1 : Around} {k : Nat} {f : Addr} {fd : FuncData} {sp : Sp} {a : Addr} {Q : VK} {Q' : Value → Shared → Prop} {E' : Value → Shared → Prop} (sb : Sub X k A1) (FL : FnOk X.prog X.w X.K X.mg X.base CX0 k f fd ["self"] sp) (bL : Binds X.K fd ["self"] [])
    (I : Inv X pins σ H s) (hsp : sp [.ref a] H Q E0) (h : ∀ u s' v H', Inv X pins σ H' s' → RelV v u → Q v H' → Q' u s') :
    wpAny (model X.prog X.w) A1 (call (.ref f) [.ref a]) Q' E' s := by
  have e0 : Env0 X.prog X.w X.K X.mg X.base A1 X.stack s H := by
    have e := I.env0
    exact ⟨by rw [sb.fr]; exact e.frames, e.mod, e.bs, e.bsz, e.funs, e.frf, e.hok, e.bare⟩
  have hl := FL.len _ _ _ _ hsp
  have r2 : Vals [V.ref a] [Value.ref a] := .cons rfl .nil
  refine wpAny_call (codeAny_mono (FL.run A1 X.stack s H ⟨[.ref a], []⟩ [.ref a] [.ref a] Q E0 sb.room e0 (by
    have := bL s [.ref a] I.kIn (by simpa using hl)
    simpa using this) r2 hsp) fun r s' hq => ?_)
  cases r with
  | error e => exact False.elim hq
  | ok fl =>
    cases fl with
    | ret u =>
      obtain ⟨v, H', I', rv, q⟩ := I.after hq
      exact h u s' v H' I' rv q
    | next => exact False.elim hq
    | brk => exact False.elim hq
    | cont => exact False.elim hq
theorem len_in {A : Around} {k : Nat} {C f a dx : Addr} {fs : List (Str × V)} {fd : FuncData} {sp : Sp} {n : Nat} {Q : Value → Shared → Prop} {E' : Value → Shared → Prop} (hl : PySem.W.findIn X.K (.ref C) "__len__" = some (some (.ref f))) (hf : PySem.W.typeIn X.K (.ref f) = some (.type "function"))
    (FL : FnOk X.prog X.w X.K X.mg X.base CX0 k f fd ["self"] sp) (bL : Binds X.K fd ["self"] []) (sb : Sub X (k + 1) A) (I : Inv X pins σ H s) (ha : H a = some (.ins C dx fs)) (hn : n < 2 ^ 63)
    (hsp : sp [.ref a] H (fun v H' => v = .int n ∧ H' = H) E0) (h : ∀ t s', Inv X pins σ H s' → Q (.int n t) s') : wpAny (model X.prog X.w) A (call (.builtin "len") [.ref a]) Q E' s := by
  obtain ⟨mA, J, _⟩ := ins_get I.hok ha
  obtain ⟨od, J, _⟩ := J.look
  refine Calls.call_function_entry kind_len plain_len entry_len (args_len1 _) ?_
  unfold Builtin.«len»
  refine wpAny_bind (m := oneArg "len" _) (wpAny_pure ?_)
  refine wpAny_bind (m := callSpecial? (.ref a) (Str.ofString "__len__")) (PySem.W.special_fn I.kIn J hl hf ?_)
  refine run_in sb.in1 FL bL I hsp fun u s' v H' I' rv q => ?_
  obtain ⟨ev, eH⟩ := q
  subst ev
  rw [eH] at I'
  obtain ⟨t, rfl⟩ := rv
  refine wpAny_bind (wpAny_holding (wpAny_pure ?_))
  refine wpAny_bind (wpAny_letGo ?_)
  show wpAny _ _ (if (n : Int) < 0 then _ else _) _ _ _
  rw [if_neg (by omega)]
  show wpAny _ _ (if (n : Int) ≥ 2 ^ 63 then _ else _) _ _ _
  rw [if_neg (by omega)]
  exact wpAny_bind (wpAny_mkInt (wpAny_pure ⟨_, rfl, h _ _ (I'.tok _)⟩))
theorem call_lenOwn {k : Nat} {C f : Addr} {fd : FuncData} {sp : Sp} (hl : PySem.W.findIn X.K (.ref C) "__len__" = some (some (.ref f))) (hf : PySem.W.typeIn X.K (.ref f) = some (.type "function"))
    (FL : FnOk X.prog X.w X.K X.mg X.base CX0 k f fd ["self"] sp) (bL : Binds X.K fd ["self"] []) (hr : Room (k + 1) X.A) :
    CallR X (.builtin "len") (fun xs H Q => ∃ a dx fs n, xs = [.ref a] ∧ H a = some (.ins C dx fs) ∧ sp [.ref a] H (fun v H' => v = .int (n : Nat) ∧ H' = H) E0 ∧ n < 2 ^ 63 ∧ Q (.int n) H) := by
  intro pins s σ H xs us Q I rv h
  obtain ⟨a, dx, fs, n, rfl, ha, hsp, hn, q⟩ := h
  obtain ⟨u, rfl, ru⟩ := rv.one
  cases ru
  exact len_in hl hf FL bL ⟨hr, rfl⟩ I ha hn hsp fun t s' I' => ⟨.int n, H, I', ⟨_, rfl⟩, q⟩
/-- at it: an iterator over the list at l -/
def ItX (l it : Addr) (i : Nat) : HO := .ext fun h => h.IsListIter it l i
def AnyO (a : Addr) : HO := .ext fun h => ∃ o, h.get? a = some o
theorem itX_ok {P : Program} {w : World} {H : Hp} {h : Heap} {l it : Addr} {i : Nat} (e : h.IsListIter it l i) : ObjOk P w H h it (ItX l it i) := by
  obtain ⟨o, e1, e2, e3⟩ := e
  exact ⟨⟨o, e1, e2, e3⟩, ⟨_, e1⟩, fun h1 h2 q k => by obtain ⟨o', q1, q2, q3⟩ := q; exact ⟨o', k _ q1, q2, q3⟩⟩
theorem anyO_ok {P : Program} {w : World} {H : Hp} {h : Heap} {a : Addr} (e : ∃ o, h.get? a = some o) : ObjOk P w H h a (AnyO a) :=
  ⟨e, e, fun h1 h2 q k => by obtain ⟨o', q1⟩ := q; exact ⟨o', k _ q1⟩⟩
theorem next_end2 {prog : Program} {w : World} {A : Around} {E : Value → Shared → Prop} {s : Shared} {it l : Addr} {i : Nat} {items} {Q : Option Value → Shared → Prop} (hh : A.handled = none)
    (hit : s.heap.IsListIter it l i) (hl : s.heap.IsList l items) (hx : items[i]? = none)
    (hQ : ∀ h', Heap.ExtBut it s.heap h' → (∃ o, h'.get? it = some o) → Q none { s with heap := h' }) : wpAny (model prog w) A (pyNext (.ref it)) Q E s := by
  obtain ⟨o, ho, hc, hd⟩ := id hit
  obtain ⟨ol, hol, _, nl, hdl⟩ := hl
  unfold pyNext
  refine wpAny_bind (wpAny_attempt (wpAny_callSpecial?_slot (name := Str.ofString "__next__") hit.typeIs slot_listiter_next
    (wpAny_call_entry slot_listiter_next hit.typeIs entry_listiter_next ?_ (args_listiter_next _))))
  show wpAny _ _ (field (.ref it) 0 >>= _) _ _ s
  refine wpAny_bind (wpAny_field ho hd (x := .ref l) rfl ?_)
  show wpAny _ _ (if (Value.ref l == Value.none) = true then _ else _) _ _ s
  rw [if_neg (show ¬ ((Value.ref l == Value.none) = true) from Bool.false_ne_true)]
  show wpAny _ _ (field (.ref it) 1 >>= _) _ _ s
  refine wpAny_bind (wpAny_field ho hd (x := .int i 0) rfl ?_)
  show wpAny _ _ (seqItems? (.ref l) >>= _) _ _ s
  refine wpAny_bind (wpAny_seqItems hol hdl ?_)
  simp only [Int.toNat_natCast, hx]
  refine wpAny_bind (wpAny_rule (wpAny_bind (wpAny_setField ho hd (by simp) ?_)))
  show wpAny _ _ (newExc (.type "StopIteration") [] >>= _) _ _ _
  refine wpAny_bind ?_
  simp only [newExc, newTuple]
  refine wpAny_bind (wpAny_newObj_type ?_ (by size_fits))
  refine wpAny_bind (m := firstArgMember _ _) (wpAny_of_eq (a := Value.none) (by first | rfl | (simp only [firstArgMember]; rfl)) ?_)
  refine wpAny_newObj_type ?_ (by size_fits)
  simp only [raiseNew]
  refine wpAny_bind (wpAny_handled ?_)
  rw [show A.in1.handled = none from hh]
  refine wpAny_bind (wpAny_pure (wpAny_throw ?_))
  refine wpAny_bind (wpAny_isInstance (T := "StopIteration") (b := true) ⟨_, Heap.get?_push_size _ rfl, rfl⟩ isSubtype_stop ?_)
  refine wpAny_pure (hQ _ (((Heap.SameBut.update ..).extBut.push _).push _) ⟨_, Heap.get?_push_of_some _ (Heap.get?_push_of_some _ (Heap.get?_update_self _ ho (Obj.isFreed_of_fields (Obj.data_mapFields hd _))))⟩)
theorem list_loop {A1 : Around} {it l q : Addr} {ys : List V} {H0 : Hp} {Rs : Result → Shared → Prop} (hh : A1.handled = none) (hil : l ≠ it) (hiq : q ≠ it) (hlq : l ≠ q) (hz : ys.length < sizeLine)
    (hdone : ∀ H s, Inv X pins σ H s → (∀ b, b ≠ it → b ≠ q → H b = H0 b) → H q = some (.lst ys) → Rs (.ok (.ret .none)) s) :
    ∀ (m i : Nat) (H : Hp) (s : Shared), m = ys.length - i → i ≤ ys.length → Inv X pins σ H s → (∀ b, b ≠ it → b ≠ q → H b = H0 b) → H l = some (.lst ys) → H it = some (ItX l it i) → H q = some (.lst (ys.take i)) →
      codeAny (model X.prog X.w) A1 (.builtin "list.extend.loop" ⟨[.ref q, .ref it, .none], []⟩) Rs s := by
  intro m
  induction m with
  | zero =>
    intro i H s hm hi I hk hl hit hq
    refine codeAny_builtin PySem.F.entry_extend_loop ?_
    rw [Around.under_plainId PySem.F.plain_extend_loop _]
    show wpAny _ A1.in1 (pyNext (.ref it) >>= _) _ _ s
    have hin : s.heap.IsListIter it l i := (I.hok it _ hit).1
    obtain ⟨its, rv, p, _⟩ := I.list (SqL.of hl)
    have hlen := rv.length
    refine wpAny_bind (next_end2 hh hin p.isList (by simp; omega) fun h' eb he => ?_)
    have I2 : Inv X pins σ (upd H it (AnyO it)) { s with heap := h' } := I.write (t' := s.toks) (x := it) (e := it) (o := AnyO it) (by rw [hit]; exact True.intro) (.inl rfl) (fun b o hb e => eb b o hb e) he (anyO_ok he)
    have ei : i = ys.length := by omega
    refine wpAny_pure (hdone _ _ I2 (fun b h1 h2 => by rw [upd_ne h1]; exact hk b h1 h2) ?_)
    rw [upd_ne hiq, hq, ei, List.take_length]
  | succ m ih =>
    intro i H s hm hi I hk hl hit hq
    refine codeAny_builtin PySem.F.entry_extend_loop ?_
    rw [Around.under_plainId PySem.F.plain_extend_loop _]
    show wpAny _ A1.in1 (pyNext (.ref it) >>= _) _ _ s
    have hin : s.heap.IsListIter it l i := (I.hok it _ hit).1
    obtain ⟨its, rv, p, _⟩ := I.list (SqL.of hl)
    have hlt : i < ys.length := by omega
    obtain ⟨u, hu, ru⟩ := rv.get (List.getElem?_eq_getElem hlt)
    refine wpAny_bind (wpAny_pyNext_list_item hin p.isList (x := u) (by simpa using hu) fun h' st' sb => ?_)
    obtain ⟨o', e1, _⟩ := id st'
    have I2 : Inv X pins σ (upd H it (ItX l it (i + 1))) { s with heap := h' } := I.write (t' := s.toks) (x := it) (e := it) (o := ItX l it (i + 1)) (by rw [hit]; exact True.intro) (.inl rfl) (fun b o hb e => (sb.2 b hb).trans e) ⟨_, e1⟩ (itX_ok st')
    have hq2 : upd H it (ItX l it (i + 1)) q = some (.lst (ys.take i)) := by rw [upd_ne hiq]; exact hq
    show wpAny _ A1.in1 (updateSeq q (·.push u) >>= _) _ _ _
    obtain ⟨z, its2, k, r2, hl2, e⟩ := I2.lstM hq2
    have hl3 : (ys.take i).length < sizeLine := by rw [List.length_take]; omega
    refine wpAny_bind (wpAny_updateSeq e rfl (wpAny_pure ⟨plainId_quiet PySem.F.plain_extend_loop _, ?_⟩) (by rw [List.size_toArray]; omega) (by show (its2.toArray.push u).size ≤ sizeLine + 1; rw [Array.size_push, List.size_toArray]; omega))
    have et : ys.take (i + 1) = ys.take i ++ [ys[i]] := by rw [List.take_add_one, List.getElem?_eq_getElem hlt]; rfl
    refine ih (i + 1) _ _ (by omega) hlt (I2.lset (ys := ys.take (i + 1)) (its' := its2 ++ [u]) (t' := s.toks) hq2 e (by simp) (by rw [et]; exact r2.append (.cons ru .nil)) (by rw [List.length_take]; omega)) (fun b h1 h2 => ?_) ?_ ?_ upd_same
    · rw [upd_ne h2, upd_ne h1]; exact hk b h1 h2
    · rw [upd_ne hlq, upd_ne hil]; exact hl
    · rw [upd_ne hiq.symm, upd_same]
theorem hint_own {A : Around} {k : Nat} {C fl a dx : Addr} {fs : List (Str × V)} {fd : FuncData} {sp : Sp} {n : Nat} {Q : Bool → Shared → Prop} {E' : Value → Shared → Prop} (hl : PySem.W.findIn X.K (.ref C) "__len__" = some (some (.ref fl))) (hf : PySem.W.typeIn X.K (.ref fl) = some (.type "function"))
    (FL : FnOk X.prog X.w X.K X.mg X.base CX0 k fl fd ["self"] sp) (bL : Binds X.K fd ["self"] []) (sb : Sub X (k + 1) A) (I : Inv X pins σ H s) (ha : H a = some (.ins C dx fs)) (hn : n < sizeLine)
    (hsp : sp [.ref a] H (fun v H' => v = .int n ∧ H' = H) E0) (h : ∀ b s', Inv X pins σ H s' → Q b s') : wpAny (model X.prog X.w) A (Builtin.List.listLengthHint (.ref a)) Q E' s := by
  obtain ⟨mA, J, _⟩ := ins_get I.hok ha
  obtain ⟨od, J, _⟩ := J.look
  unfold Builtin.List.listLengthHint
  refine wpAny_bind (wpAny_bind (J.type.here ((PySem.W.looks_findIn I.kIn hl).here ?_)))
  refine PySem.W.KFB.if_not rfl ?_
  refine PySem.W.KFB.if_so rfl ?_
  refine wpAny_bind (wpAny_rule ?_)
  have hs : sizeLine = 16777216 := sizeLine_eq
  refine wpAny_bind (wpAny_attempt (len_in hl hf FL bL sb I ha (by omega) hsp fun t s' I' => ?_))
  show wpAny _ _ (if Builtin.List.listTooLong (n : Int).toNat = true then _ else pure ((n : Int) != 0)) _ _ _
  have hz : Builtin.List.listTooLong (n : Int).toNat = false := notLongL (by rw [Int.toNat_natCast]; omega)
  rw [if_neg (by rw [hz]; exact Bool.false_ne_true)]
  exact wpAny_pure (h _ _ I')
theorem call_listOwn2 {k : Nat} {C fi fl : Addr} {fdI fdL : FuncData} {spI spL : Sp} (hit : PySem.W.findIn X.K (.ref C) "__iter__" = some (some (.ref fi))) (hiF : PySem.W.isFn X.K (.ref fi) = true)
    (hl : PySem.W.findIn X.K (.ref C) "__len__" = some (some (.ref fl))) (hf : PySem.W.typeIn X.K (.ref fl) = some (.type "function"))
    (FI : FnOk X.prog X.w X.K X.mg X.base CX0 k fi fdI ["self"] spI) (bI : Binds X.K fdI ["self"] []) (FL : FnOk X.prog X.w X.K X.mg X.base CX0 k fl fdL ["self"] spL) (bL : Binds X.K fdL ["self"] []) (hc : X.calm = true) (hr : Room (k + 3) X.A) :
    CallR X (.type "list") (fun xs H Q => ∃ a dx fs l ys, xs = [.ref a] ∧ H a = some (.ins C dx fs) ∧ H l = some (.lst ys) ∧ ys.length < sizeLine ∧
      (∀ H1, Same H H1 → spI [.ref a] H1 (fun v H' => ∃ it, v = .ref it ∧ H1 it = none ∧ H' = upd H1 it (ItO l it 0)) E0 ∧ spL [.ref a] H1 (fun v H' => v = .int (ys.length : Nat) ∧ H' = H1) E0) ∧
      ∀ q H', H q = none → Same H H' → H' q = some (.lst ys) → Q (.ref q) H') := by
  intro pins s σ H xs us Q I rv h
  obtain ⟨a, dx, fs, l, ys, rfl, ha, hL, hz, hsp, hq⟩ := h
  obtain ⟨u, rfl, ru⟩ := rv.one
  cases ru
  have sb : Sub X (k + 1) X.A.in1.in1 := (Sub.in1 (Sub.in1 (⟨hr, rfl⟩ : Sub X (k + 3) X.A)))
  have sb0 : Sub X k X.A.in1.in1 := sb.mono (Nat.le_succ _)
  refine callType_codes (Q₁ := fun obj s₁ => obj = .ref s.heap.objs.size ∧ s₁ = { s with heap := s.heap.push { cls := .type "list", data := .seq #[] } }) PySem.F.called_list (PySem.F.typeCall_list_1 _) PySem.F.entry_list_init
    (code_list_new _ ⟨rfl, rfl⟩) fun obj s₁ h₁ => ?_
  obtain ⟨rfl, rfl⟩ := h₁
  have hS : (s.heap.push { cls := .type "list", data := .seq #[] }).get? s.heap.objs.size = some { cls := .type "list", data := .seq #[] } := Heap.get?_push_size _ rfl
  refine ⟨⟨_, hS, rfl⟩, PySem.F.args_list_init_2 _ _, ?_⟩
  have fr : H s.heap.objs.size = none := I.hok.fresh (Nat.le_refl _)
  generalize hqe : s.heap.objs.size = q at *
  have I1 : Inv X pins σ (upd H q (.lst [])) { s with heap := s.heap.push { cls := .type "list", data := .seq #[] } } := by
    have := I.lnew (its := []) (ys := []) (t' := s.toks) .nil (Nat.zero_le _)
    rw [hqe] at this
    exact this
  show wpAny _ _ (do let old ← Builtin.List.listItems (.ref q); Builtin.List.listUpdate (.ref q) (fun _ => #[]); letGo old.toList.reverse; Builtin.List.listExtendWith (.ref q) (.ref a) .none) _ _ _
  refine wpAny_bind ?_
  unfold Builtin.List.listItems
  refine wpAny_bind (wpAny_seqItems hS rfl (wpAny_pure ?_))
  show wpAny _ _ (updateSeq q (fun _ => #[]) >>= fun _ => letGo (#[] : Array Value).toList.reverse >>= fun _ => Builtin.List.listExtendWith (.ref q) (.ref a) .none) _ _ _
  refine wpAny_bind (wpAny_updateSeq hS rfl ?_)
  have I2 := I1.lset (f := fun _ => #[]) (its := []) (its' := []) (ys := []) (t' := s.toks) upd_same hS rfl .nil (Nat.zero_le _)
  rw [upd_upd] at I2
  refine wpAny_bind (wpAny_letGo ?_)
  have s2 : Same H (upd H q (.lst [])) := fun b o e => by rw [upd_ne (ne_of_none e fr)]; exact e
  have ha2 := s2 _ _ ha
  have hne : q ≠ a := (ne_of_none ha fr).symm
  have hql : l ≠ q := ne_of_none hL fr
  obtain ⟨mA, J, _⟩ := ins_get I2.hok ha2
  obtain ⟨od, J, _⟩ := J.look
  obtain ⟨m0, hF⟩ := I2.fr
  unfold Builtin.List.listExtendWith
  refine wpAny_bind (J.type.here ?_)
  have h1 : Builtin.List.listSameRef (.ref q) (.ref a) = false := by simp [Builtin.List.listSameRef, hne]
  have h2 : (Value.ref C == Value.type "list") = false := rfl
  have h3 : (Value.ref C == Value.type "tuple") = false := rfl
  simp only [h1, h2, h3, Bool.or_false, Bool.false_eq_true, if_false]
  obtain ⟨hspI, hspL⟩ := hsp _ s2
  refine wpAny_bind (PySem.W.owit_iter hF I2.ok.mod.kin J hit hiF ?_)
  refine run_in sb0 FI bI I2 hspI fun u s' v H' I' rv q' => ?_
  obtain ⟨it, ev, hn, eH⟩ := q'
  subst ev
  subst eH
  cases rv
  have hin : s'.heap.IsListIter it l 0 := by
    have e := itO_get I' upd_same
    exact ⟨_, e, rfl, rfl⟩
  unfold PySem.W.OwitIt
  refine wpAny_bind (wpAny_typeOf hin.typeIs ?_)
  rw [slot_listiter_next.lookup]
  refine wpAny_pure ?_
  have qit : q ≠ it := ne_of_none (show upd H q (.lst []) q = some _ from upd_same) hn
  have lit : l ≠ it := ne_of_none (s2 _ _ hL) hn
  have ait : a ≠ it := ne_of_none ha2 hn
  -- the iterator, tracked by what is asked of it
  have I3 : Inv X pins σ (upd (upd H q (.lst [])) it (ItX l it 0)) s' := by
    have := I'.write (t' := s'.toks) (h' := s'.heap) (x := it) (e := it) (o := ItX l it 0) (by rw [upd_same]; exact True.intro) (.inl rfl) (fun _ _ _ e => e) (by obtain ⟨o, e, _⟩ := hin; exact ⟨o, e⟩) (itX_ok hin)
    rw [upd_upd] at this
    exact this
  have s3 : Same H (upd (upd H q (.lst [])) it (ItX l it 0)) := fun b o e => by rw [upd_ne (ne_of_none (s2 _ _ e) hn)]; exact s2 _ _ e
  obtain ⟨_, hspL3⟩ := hsp _ s3
  refine wpAny_bind (wpAny_holding (hint_own hl hf FL bL sb I3 (s3 _ _ ha) hz hspL3 fun b s4 I4 => ?_))
  have go : ∀ s5 : Shared, Inv X pins σ (upd (upd H q (.lst [])) it (ItX l it 0)) s5 →
      codeAny (model X.prog X.w) X.A.in1 (.builtin "list.extend.loop" ⟨[.ref q, .ref it, .none], []⟩) (wants (fun r s₂ => r = .none ∧ EP X pins σ Q (.ref q) s₂) X.xe) s5 := fun s5 I5 => by
    refine list_loop (H0 := H) (ys := ys) (show X.A.in1.handled = none from I.ok.hd hc) lit qit hql hz (fun H6 s6 I6 hk hq6 => ⟨rfl, .ref q, H6, I6, rfl, hq q H6 fr (fun b o e => ?_) hq6⟩) _ 0 _ s5 rfl (Nat.zero_le _) I5 (fun b h1 h2 => by rw [upd_ne h1, upd_ne h2]) (s3 _ _ hL) upd_same (by rw [upd_ne qit, upd_same]; rfl)
    rw [hk b (ne_of_none (s2 _ _ e) hn) (ne_of_none e fr)]
    exact e
  have hq4 : upd (upd H q (.lst [])) it (ItX l it 0) q = some (.lst []) := by rw [upd_ne qit, upd_same]
  obtain ⟨z, its, k3, r3, hl3, e3⟩ := I4.lstM hq4
  cases r3
  refine wpAny_ite_split (fun _ => ?_) (fun _ => wpAny_pure ⟨plainId_quiet PySem.F.plain_extend_loop _, go _ I4⟩)
  refine wpAny_bind (wpAny_rule ?_)
  refine wpAny_bind ?_
  show wpAny _ _ (updateSeq q (·.push .none) >>= fun _ => updateSeq q (·.pop)) _ _ _
  refine wpAny_bind (wpAny_updateSeq e3 rfl ?_)
  have I5 := I4.lset (f := (·.push Value.none)) (its' := [Value.none]) (ys := [.non]) (t' := s4.toks) hq4 e3 (by simp) (.cons rfl .nil) (by rw [List.length_singleton, sizeLine_eq]; decide)
  obtain ⟨z4, its4, k4, r4, hl4, e4⟩ := I5.lstM upd_same
  obtain ⟨u4, rfl, ru4⟩ := r4.one
  refine wpAny_updateSeq e4 rfl ?_ (by show 1 ≤ sizeLine; rw [sizeLine_eq]; decide) (by show 0 ≤ sizeLine + 1; exact Nat.zero_le _)
  refine wpAny_pure ⟨plainId_quiet PySem.F.plain_extend_loop _, go _ ?_⟩
  have I6 := I5.lset (f := (·.pop)) (its := [u4]) (its' := []) (ys := []) (t' := s4.toks) upd_same e4 (by rfl) .nil (Nat.zero_le _)
  rw [upd_upd] at I6
  have hH : upd (upd (upd H q (.lst [])) it (ItX l it 0)) q (.lst []) = upd (upd H q (.lst [])) it (ItX l it 0) := by
    funext b
    by_cases hb : b = q
    · rw [hb, upd_same, upd_ne qit, upd_same]
    · rw [upd_ne hb]
  rw [hH] at I6
  exact I6
end
end My

/-! M -/
/-! terms: parts, pools, their words; plain Lean -/
namespace My
open PySem L2
theorem gN {i : Nat} {v : V} {σ : L2.St} {H : Hp} {Q : L2.St → Hp → Prop} (h : Q (σ.set i (some v)) H) : gName i v σ H Q := h
theorem seqT {t u : TS} {D : Ends} {σ : L2.St} {H : Hp} (h : t { D with nx := u D } σ H) : tSeq t u D σ H := h
theorem iteN {c A B : Prop} [Decidable c] (h : ¬ c) (b : B) : if c then A else B := by rw [if_neg h]; exact b
theorem iteP {c A B : Prop} [Decidable c] (h : c) (a : A) : if c then A else B := by rw [if_pos h]; exact a
theorem dT {p : Prop} [Decidable p] (h : p) : decide p = true := decide_eq_true h
theorem dF {p : Prop} [Decidable p] (h : ¬ p) : ¬ decide p = true := fun z => h (of_decide_eq_true z)
theorem ite2d {p A B : Prop} [Decidable p] (h1 : p → A) (h2 : ¬ p → B) : if decide p = true then A else B := by
  by_cases h : p
  · rw [if_pos (decide_eq_true h)]; exact h1 h
  · rw [if_neg (dF h)]; exact h2 h
theorem nT {b : Bool} (h : ¬ b = true) : (!b) = true := by cases b <;> simp_all
theorem nF {b : Bool} (h : b = true) : ¬ (!b) = true := by cases b <;> simp_all
theorem cpow1 {n : Int} (h0 : 0 ≤ n) (h : n ≤ 1000) : CPow 1 n := ⟨h0, by omega, by decide⟩
theorem cpow10 : CPow 10 18 := ⟨by decide, by decide, by decide⟩
theorem cdiv {i j : Int} (h0 : 0 < j) (h : j < 1073741824) : CDiv i j := ⟨h0, h⟩
theorem two_pos (n : Int) : (0 : Int) < 1 * 2 ^ n.toNat := by rw [Int.one_mul]; exact Int.pow_pos (by decide)
inductive Op | add | sub | and | or | xor | less | same deriving DecidableEq
def Op.s : Op → Str | .add => "add" | .sub => "sub" | .and => "and" | .or => "or" | .xor => "xor" | .less => "less" | .same => "same"
def opI (w : Nat) : Op → Int → Int → Int
  | .add, x, y => (x + y) % 2 ^ w
  | .sub, x, y => (x - y) % 2 ^ w
  | .and, x, y => Builtin.bitAnd x y
  | .or, x, y => Builtin.bitOr x y
  | .xor, x, y => Builtin.bitXor x y
  | .less, x, y => if x < y then 1 else 0
  | .same, x, y => if x = y then 1 else 0
theorem mask_eq (x : Int) (n : Nat) : Builtin.bitAnd x (1 * 2 ^ (n : Int).toNat - 1) = x % 2 ^ n := by
  rw [Int.one_mul, Int.toNat_natCast]; exact PySem.W.kbt_mask x n
inductive Part | num (v : Int) | get (i : Int) | op (o : Op) (a b : Nat) deriving DecidableEq
def Part.vals : Part → List V
  | .num v => [.str "num", .int v] | .get i => [.str "get", .int i] | .op o a b => [.str o.s, .int a, .int b]
def Part.key : Part → List Key
  | .num v => [.inr "num", .inl v] | .get i => [.inr "get", .inl i] | .op o a b => [.inr o.s, .inl a, .inl b]
theorem key_vals (p : Part) : p.key.map kV = p.vals := by cases p <;> rfl
theorem op_inj {o o' : Op} (h : o.s = o'.s) : o = o' := by
  cases o <;> cases o' <;> first | rfl | (exact absurd h (by decide +kernel))
theorem num_get : ¬ (("num" : Str) = "get") := by decide +kernel
theorem key_inj {p q : Part} (h : p.key = q.key) : p = q := by
  cases p <;> cases q <;> simp [Part.key] at h
  · exact congrArg _ h
  · exact absurd h.1 num_get
  · exact absurd h.1.symm num_get
  · exact congrArg _ h
  · obtain ⟨h1, h2, h3⟩ := h
    have h2 := Int.ofNat.inj h2
    have h3 := Int.ofNat.inj h3
    rw [op_inj h1, h2, h3]
theorem vals_inj {p q : Part} (h : p.vals = q.vals) : p = q := by
  cases p <;> cases q <;> simp [Part.vals] at h
  · exact congrArg _ h
  · exact absurd h.1 num_get
  · exact absurd h.1.symm num_get
  · exact congrArg _ h
  · obtain ⟨h1, h2, h3⟩ := h
    have h2 := Int.ofNat.inj h2
    have h3 := Int.ofNat.inj h3
    rw [op_inj h1, h2, h3]
/-- made or found -/
def mk (ps : List Part) (p : Part) : Nat × List Part := if p ∈ ps then (ps.idxOf p, ps) else (ps.length, ps ++ [p])
def numd (ps : List Part) : List (List Key × V) := ps.zipIdx.map fun x => (x.1.key, .int (x.2 : Nat))
theorem numd_snoc (ps : List Part) (p : Part) : numd (ps ++ [p]) = numd ps ++ [(p.key, .int (ps.length : Nat))] := by
  unfold numd
  rw [List.zipIdx_append, List.map_append]
  simp
theorem numd_len (ps : List Part) : (numd ps).length = ps.length := by unfold numd; simp
theorem valV_numd (p : Part) : ∀ ps : List Part, valV (numd ps) p.key = if p ∈ ps then some (.int (ps.idxOf p : Nat)) else none := by
  have gen : ∀ (ps : List Part) (k : Nat), valV ((ps.zipIdx k).map fun x => (x.1.key, V.int (x.2 : Nat))) p.key = if p ∈ ps then some (.int ((k + ps.idxOf p : Nat) : Int)) else none := by
    intro ps
    induction ps with
    | nil => intro k; rfl
    | cons q r ih =>
      intro k
      rw [List.zipIdx_cons, List.map_cons]
      by_cases e : q = p
      · subst e
        rw [valV_pos rfl, if_pos List.mem_cons_self, List.idxOf_cons_self]
        rfl
      · rw [valV_neg (fun z => e (key_inj z)), ih (k + 1)]
        by_cases m : p ∈ r
        · have ee : (q == p) = false := by simpa using e
          rw [if_pos m, if_pos (List.mem_cons_of_mem _ m), List.idxOf_cons, ee]
          simp only [Option.some.injEq, V.int.injEq, cond_false]
          omega
        · rw [if_neg m, if_neg (fun z => m ((List.mem_cons.mp z).resolve_left (fun y => e y.symm)))]
  intro ps
  have := gen ps 0
  simp only [Nat.zero_add] at this
  exact this
/-! ### what is shortened -/
inductive Sh | one | other | zero | unit | no deriving DecidableEq
def Sh.v : Sh → V | .one => .str "one" | .other => .str "other" | .zero => .str "zero" | .unit => .str "unit" | .no => .non
def shTwice : Op → Sh | .sub => .zero | .xor => .zero | .less => .zero | .or => .one | .same => .unit | _ => .no
def shAnd (fa fb : Option Int) (eq : Bool) (most : Int) : Sh :=
  if fa = some 0 ∨ fb = some 0 then .zero else if fa = some most then .other else if fb = some most ∨ eq = true then .one else .no
def shortR (o : Op) (fa fb : Option Int) (eq : Bool) (most : Int) : Sh :=
  if (o = .add ∨ o = .or ∨ o = .xor) ∧ fa = some 0 then .other
  else if (o = .add ∨ o = .or ∨ o = .xor) ∧ fb = some 0 then .one
  else if o = .and then shAnd fa fb eq most
  else if fb = some 0 ∧ o = .sub then .one
  else if fb = some 0 ∧ o = .less then .zero
  else if eq = true then shTwice o
  else .no
def optV : Option Int → V | some x => .int x | none => .non
theorem dec_opt (fa : Option Int) (z : Int) : decide (optV fa = .int z) = decide (fa = some z) := by
  cases fa with
  | none => simp [optV]
  | some x => simp [optV]
theorem scal_opt (fa : Option Int) (z : Int) : scal (optV fa) (.int z) = true := by cases fa <;> rfl
def either (o : Op) : Bool := match o with | .sub => false | .less => false | _ => true
def Part.word : Part → Option Int | .num v => some v | _ => none
def wordOf (ps : List Part) (a : Nat) : Option Int := (ps[a]?).bind Part.word
theorem wordOf_at {ps : List Part} {i : Nat} {p : Part} (h : ps[i]? = some p) : wordOf ps i = p.word := by unfold wordOf; rw [h]; rfl
def fin (ps : List Part) (o : Op) (a b : Nat) : Sh → Nat × List Part
  | .one => (a, ps) | .other => (b, ps) | .zero => mk ps (.num 0) | .unit => mk ps (.num 1) | .no => mk ps (.op o a b)
def mApply (w : Nat) (ps : List Part) (o : Op) (a b : Nat) : Nat × List Part :=
  match wordOf ps a, wordOf ps b with
  | some x, some y => mk ps (.num (opI w o x y))
  | fa, fb => if either o = true ∧ b < a then fin ps o b a (shortR o fb fa (decide (b = a)) (2 ^ w - 1)) else fin ps o a b (shortR o fa fb (decide (a = b)) (2 ^ w - 1))
/-! ### in the heap -/
def TupsAt (H : Hp) (ts : List Addr) (ps : List Part) : Prop := ts.length = ps.length ∧ ∀ (i : Nat) (p : Part), ps[i]? = some p → ∃ t : Addr, ts[i]? = some t ∧ H t = some (.tup p.vals)
/-- a list of parts at l -/
def LAt (H : Hp) (l : Addr) (ps : List Part) : Prop := ∃ ts, H l = some (.lst (ts.map V.ref)) ∧ TupsAt H ts ps
theorem LAt.item {H : Hp} {l : Addr} {ps : List Part} (h : LAt H l ps) : ∃ xs : List V, H l = some (.lst xs) ∧ xs.length = ps.length ∧ ∀ (i : Nat) (p : Part), ps[i]? = some p → ∃ t : Addr, xs[i]? = some (V.ref t) ∧ H t = some (.tup p.vals) := by
  obtain ⟨ts, h1, h2, h3⟩ := h
  refine ⟨_, h1, by rw [List.length_map, h2], fun i p e => ?_⟩
  obtain ⟨t, e1, e2⟩ := h3 i p e
  exact ⟨t, by rw [List.getElem?_map, e1]; rfl, e2⟩
/-- what stands stays, but for what S says -/
def Keep (S : Addr → Prop) (H H' : Hp) : Prop := ∀ b o, H b = some o → ¬ S b → H' b = some o
theorem LAt.keep {S : Addr → Prop} {H H' : Hp} {l : Addr} {ps : List Part} (h : LAt H l ps) (k : Keep S H H') (hl : ¬ S l) (ht : ∀ t xs, H t = some (.tup xs) → ¬ S t) : LAt H' l ps := by
  obtain ⟨ts, h1, h2, h3⟩ := h
  refine ⟨ts, k _ _ h1 hl, h2, fun i p e => ?_⟩
  obtain ⟨t, e1, e2⟩ := h3 i p e
  exact ⟨t, e1, k _ _ e2 (ht _ _ e2)⟩
theorem LAt.push {H H' : Hp} {l t : Addr} {ps : List Part} {p : Part} {xs : List V} (h : LAt H l ps) (hx : H l = some (.lst xs)) (k : ∀ b ys, H b = some (.tup ys) → H' b = some (.tup ys)) (e : H' l = some (.lst (xs ++ [.ref t]))) (et : H' t = some (.tup p.vals)) : LAt H' l (ps ++ [p]) := by
  obtain ⟨ts, h1, h2, h3⟩ := h
  rw [h1] at hx
  cases hx
  refine ⟨ts ++ [t], by rw [e, List.map_append]; rfl, by rw [List.length_append, List.length_append, h2]; rfl, fun i q hq => ?_⟩
  by_cases hi : i < ps.length
  · rw [List.getElem?_append_left hi] at hq
    obtain ⟨u, e1, e2⟩ := h3 i q hq
    refine ⟨u, by rw [List.getElem?_append_left (by omega)]; exact e1, k _ _ e2⟩
  · have hl := (List.getElem?_eq_some_iff.mp hq).1
    rw [List.length_append, List.length_singleton] at hl
    have ei : i = ps.length := by omega
    subst ei
    rw [List.getElem?_append_right (Nat.le_refl _), Nat.sub_self] at hq
    cases hq
    exact ⟨t, by rw [← h2, List.getElem?_append_right (Nat.le_refl _), Nat.sub_self]; rfl, et⟩
def poolF (w : Nat) (l d : Addr) : List (Str × V) := [("width", .int w), ("_most", .int (2 ^ w - 1)), ("_parts", .ref l), ("_numbers", .ref d)]
structure PoolAt (C : Addr) (H : Hp) (a l d : Addr) (w : Nat) (ps : List Part) : Prop where
  ob : ∃ dx, H a = some (.ins C dx (poolF w l d))
  lst : LAt H l ps
  dic : H d = some (.dT (numd ps))
theorem ld_ne {H : Hp} {l d : Addr} {xs : List V} {kvs : List (List Key × V)} (h1 : H l = some (.lst xs)) (h2 : H d = some (.dT kvs)) : l ≠ d := ne_of h1 h2 (by intro z; cases z)
theorem PoolAt.keep {S : Addr → Prop} {C : Addr} {H H' : Hp} {a l d : Addr} {w : Nat} {ps : List Part} (h : PoolAt C H a l d w ps) (k : Keep S H H') (ha : ¬ S a) (hl : ¬ S l) (hd : ¬ S d) (ht : ∀ t xs, H t = some (.tup xs) → ¬ S t) : PoolAt C H' a l d w ps :=
  ⟨by obtain ⟨dx, e⟩ := h.ob; exact ⟨dx, k _ _ e ha⟩, h.lst.keep k hl ht, k _ _ h.dic hd⟩
theorem lk {f g : Str} {y : V} {fs : List (Str × V)} : ((f, y) :: fs).lookup g = if g = f then some y else fs.lookup g := by
  by_cases h : g = f
  · subst h; simp [List.lookup]
  · have e : (g == f) = false := by simpa using h
    rw [if_neg h]; simp [List.lookup, e]
theorem look_width (w : Nat) (l d : Addr) : (poolF w l d).lookup ("width" : Str) = some (V.int w) := by unfold poolF; rw [lk, if_pos rfl]
theorem look_most (w : Nat) (l d : Addr) : (poolF w l d).lookup ("_most" : Str) = some (V.int (2 ^ w - 1)) := by unfold poolF; rw [lk, if_neg (by decide +kernel), lk, if_pos rfl]
theorem look_parts (w : Nat) (l d : Addr) : (poolF w l d).lookup ("_parts" : Str) = some (V.ref l) := by unfold poolF; rw [lk, if_neg (by decide +kernel), lk, if_neg (by decide +kernel), lk, if_pos rfl]
theorem look_numbers (w : Nat) (l d : Addr) : (poolF w l d).lookup ("_numbers" : Str) = some (V.ref d) := by unfold poolF; rw [lk, if_neg (by decide +kernel), lk, if_neg (by decide +kernel), lk, if_neg (by decide +kernel), lk, if_pos rfl]
theorem look_no (w : Nat) (l d : Addr) {m : Str} (h1 : ¬ m = "width") (h2 : ¬ m = "_most") (h3 : ¬ m = "_parts") (h4 : ¬ m = "_numbers") : (poolF w l d).lookup m = none := by
  unfold poolF; rw [lk, if_neg h1, lk, if_neg h2, lk, if_neg h3, lk, if_neg h4]; rfl
theorem poolF_made (w : Nat) (l d : Addr) : putF "_numbers" (.ref d) (putF "_parts" (.ref l) (putF "_most" (.int (2 ^ w - 1)) (putF "width" (.int w) []))) = poolF w l d := by
  have e1 : ¬ (("width" : Str) = "_most") := by decide +kernel
  have e2 : ¬ (("width" : Str) = "_parts") := by decide +kernel
  have e3 : ¬ (("_most" : Str) = "_parts") := by decide +kernel
  have e4 : ¬ (("width" : Str) = "_numbers") := by decide +kernel
  have e5 : ¬ (("_most" : Str) = "_numbers") := by decide +kernel
  have e6 : ¬ (("_parts" : Str) = "_numbers") := by decide +kernel
  simp only [putF, if_neg e1, if_neg e2, if_neg e3, if_neg e4, if_neg e5, if_neg e6]
  rfl
end My

/-! R -/
/-! what a part is made of -/
namespace My
open PySem L2
inductive Reach (ps : List Part) (n : Nat) : Nat → Prop
  | self : Reach ps n n
  | left {k : Nat} {o : Op} {a b : Nat} : Reach ps n k → ps[k]? = some (Part.op o a b) → Reach ps n a
  | right {k : Nat} {o : Op} {a b : Nat} : Reach ps n k → ps[k]? = some (Part.op o a b) → Reach ps n b
/-- operands stand ahead -/
def WF (ps : List Part) : Prop := ∀ (k : Nat) (o : Op) (a b : Nat), ps[k]? = some (Part.op o a b) → a < k ∧ b < k
theorem Reach.le {ps : List Part} {n k : Nat} (w : WF ps) (h : Reach ps n k) : k ≤ n := by
  induction h with
  | self => exact Nat.le_refl _
  | left _ e ih => have := w _ _ _ _ e; omega
  | right _ e ih => have := w _ _ _ _ e; omega
structure ReachL (ps : List Part) (n : Nat) (ks : List Nat) : Prop where
  asc : ks.Pairwise (· < ·)
  mem : ∀ k, k ∈ ks ↔ Reach ps n k
theorem asc_ext : ∀ {xs ys : List Nat}, xs.Pairwise (· < ·) → ys.Pairwise (· < ·) → (∀ k, k ∈ xs ↔ k ∈ ys) → xs = ys
  | [], [], _, _, _ => rfl
  | [], y :: ys, _, _, h => absurd ((h y).mpr List.mem_cons_self) (by simp)
  | x :: xs, [], _, _, h => absurd ((h x).mp List.mem_cons_self) (by simp)
  | x :: xs, y :: ys, hx, hy, h => by
    obtain ⟨hx1, hx2⟩ := List.pairwise_cons.mp hx
    obtain ⟨hy1, hy2⟩ := List.pairwise_cons.mp hy
    have e : x = y := by
      rcases List.mem_cons.mp ((h x).mp List.mem_cons_self) with e | e
      · exact e
      · rcases List.mem_cons.mp ((h y).mpr List.mem_cons_self) with e' | e'
        · exact e'.symm
        · have := hy1 _ e; have := hx1 _ e'; omega
    subst e
    rw [asc_ext hx2 hy2 fun k => ⟨fun m => ?_, fun m => ?_⟩]
    · rcases List.mem_cons.mp ((h k).mp (List.mem_cons_of_mem _ m)) with e | e
      · have := hx1 _ m; omega
      · exact e
    · rcases List.mem_cons.mp ((h k).mpr (List.mem_cons_of_mem _ m)) with e | e
      · have := hy1 _ m; omega
      · exact e
theorem ReachL.uniq {ps : List Part} {n : Nat} {ks ls : List Nat} (h : ReachL ps n ks) (h' : ReachL ps n ls) : ks = ls :=
  asc_ext h.asc h'.asc fun k => (h.mem k).trans (h'.mem k).symm
/-- the dict of what is found -/
def dk (F : List Nat) : List (Key × V) := F.map fun (k : Nat) => (Sum.inl ((k : Nat) : Int), V.bl true)
theorem valV_dk (k : Nat) : ∀ F : List Nat, valV (dk F) (Sum.inl (k : Int)) = if k ∈ F then some (.bl true) else none
  | [] => rfl
  | j :: F => by
    have ih := valV_dk k F
    unfold dk at ih ⊢
    rw [List.map_cons]
    by_cases e : j = k
    · subst e
      rw [valV_pos rfl, if_pos List.mem_cons_self]
    · rw [valV_neg (fun z => e (by have := Sum.inl.inj z; exact Int.ofNat.inj this)), ih]
      by_cases m : k ∈ F
      · rw [if_pos m, if_pos (List.mem_cons_of_mem _ m)]
      · rw [if_neg m, if_neg (fun z => m ((List.mem_cons.mp z).resolve_left (fun y => e y.symm)))]
theorem dk_len (F : List Nat) : (dk F).length = F.length := by unfold dk; simp
theorem dk_put {F : List Nat} {k : Nat} (h : k ∉ F) : putK (dk F) (Sum.inl (k : Int)) (.bl true) = dk (F ++ [k]) := by
  rw [putK_new _ (by rw [valV_dk, if_neg h])]; unfold dk; simp
theorem dk_keys (F : List Nat) : (dk F).map (·.1) = (F.map fun (k : Nat) => ((k : Nat) : Int)).map Sum.inl := by unfold dk; simp
/-- found and waiting -/
structure FW (ps : List Part) (n : Nat) (F W : List Nat) : Prop where
  nd : F.Nodup
  sub : ∀ k ∈ W, k ∈ F
  rch : ∀ k ∈ F, Reach ps n k
  n_in : n ∈ F
  clo : ∀ k ∈ F, k ∉ W → ∀ (o : Op) (a b : Nat), ps[k]? = some (Part.op o a b) → a ∈ F ∧ b ∈ F
def addN (s : List Nat × List Nat) (k : Nat) : List Nat × List Nat := if k ∈ s.1 then s else (s.1 ++ [k], s.2 ++ [k])
theorem addN_in {s : List Nat × List Nat} {k : Nat} (h : k ∈ s.1) : addN s k = s := if_pos h
theorem addN_new {s : List Nat × List Nat} {k : Nat} (h : k ∉ s.1) : addN s k = (s.1 ++ [k], s.2 ++ [k]) := if_neg h
theorem nodup_lt : ∀ {n : Nat} {F : List Nat}, F.Nodup → (∀ k ∈ F, k < n) → F.length ≤ n
  | 0, F, _, hk => by
    cases F with
    | nil => exact Nat.le_refl _
    | cons x r => exact absurd (hk x List.mem_cons_self) (Nat.not_lt_zero _)
  | n + 1, F, h, hk => by
    have ih := nodup_lt (n := n) (F := F.erase n) (h.erase n) fun k m => by
      have := (h.mem_erase_iff).mp m
      have := hk k this.2
      omega
    rw [List.length_erase] at ih
    split at ih <;> omega
end My
namespace My
open PySem L2
def adds (s : List Nat × List Nat) (l : List Nat) : List Nat × List Nat := l.foldl addN s
theorem adds_two {s : List Nat × List Nat} (x y : Nat) (i : Nat) (v : Nat) (h : [x, y][i]? = some v) : adds s ([x, y].take (i + 1)) = addN (adds s ([x, y].take i)) v := by
  match i, h with
  | 0, h => cases h; rfl
  | 1, h => cases h; rfl
  | i + 2, h => simp at h
theorem addN_mono {s : List Nat × List Nat} {k j : Nat} (h : j ∈ s.1) : j ∈ (addN s k).1 := by
  unfold addN; split
  · exact h
  · exact List.mem_append_left _ h
theorem addN_self {s : List Nat × List Nat} {k : Nat} : k ∈ (addN s k).1 := by
  unfold addN; split
  · assumption
  · simp
/-- one turn -/
structure Mid (ps : List Part) (n : Nat) (s : List Nat × List Nat) (j : Nat) : Prop where
  nd : s.1.Nodup
  sub : ∀ k ∈ s.2, k ∈ s.1
  rch : ∀ k ∈ s.1, Reach ps n k
  n_in : n ∈ s.1
  clo : ∀ k ∈ s.1, k ∉ s.2 → k ≠ j → ∀ (o : Op) (a b : Nat), ps[k]? = some (Part.op o a b) → a ∈ s.1 ∧ b ∈ s.1
theorem Mid.add {ps : List Part} {n : Nat} {s : List Nat × List Nat} {j k : Nat} (m : Mid ps n s j) (r : Reach ps n k) : Mid ps n (addN s k) j := by
  by_cases h : k ∈ s.1
  · rw [addN_in h]; exact m
  · rw [addN_new h]
    refine ⟨?_, fun z hz => ?_, fun z hz => ?_, List.mem_append_left _ m.n_in, fun z hz hn hj o a b e => ?_⟩
    · exact List.nodup_append.mpr ⟨m.nd, by simp, by intro a ha b hb; simp at hb; subst hb; exact fun e => h (e ▸ ha)⟩
    · rcases List.mem_append.mp hz with hz | hz
      · exact List.mem_append_left _ (m.sub z hz)
      · exact List.mem_append_right _ hz
    · rcases List.mem_append.mp hz with hz | hz
      · exact m.rch z hz
      · simp at hz; subst hz; exact r
    · rcases List.mem_append.mp hz with hz | hz
      · have := m.clo z hz (fun q => hn (List.mem_append_left _ q)) hj o a b e
        exact ⟨List.mem_append_left _ this.1, List.mem_append_left _ this.2⟩
      · exact absurd (List.mem_append_right _ hz) hn
theorem FW.mid {ps : List Part} {n : Nat} {F W : List Nat} {j : Nat} (f : FW ps n F (W ++ [j])) : Mid ps n (F, W) j :=
  ⟨f.nd, fun k m => f.sub k (List.mem_append_left _ m), f.rch, f.n_in, fun k hk hn hj o a b e => f.clo k hk (by simp [hn, hj]) o a b e⟩
theorem Mid.fw {ps : List Part} {n : Nat} {s : List Nat × List Nat} {j : Nat} (m : Mid ps n s j) (h : ∀ (o : Op) (a b : Nat), ps[j]? = some (Part.op o a b) → a ∈ s.1 ∧ b ∈ s.1) : FW ps n s.1 s.2 :=
  ⟨m.nd, m.sub, m.rch, m.n_in, fun k hk hn o a b e => by
    by_cases hj : k = j
    · subst hj; exact h o a b e
    · exact m.clo k hk hn hj o a b e⟩
/-- the measure of one step -/
theorem addN_meas (N : Nat) (s : List Nat × List Nat) (k : Nat) (h : (addN s k).1.length ≤ N) : 2 * (N - (addN s k).1.length) + (addN s k).2.length ≤ 2 * (N - s.1.length) + s.2.length := by
  unfold addN at h ⊢
  split
  · exact Nat.le_refl _
  · rename_i hk
    rw [if_neg hk] at h
    simp at h ⊢
    omega
end My

/-! R2 -/
namespace My
open PySem L2
/-! ### made or found -/
theorem mk_at (ps : List Part) (p : Part) : (mk ps p).2[(mk ps p).1]? = some p := by
  unfold mk; split
  · rename_i h
    have := List.idxOf_lt_length_iff.mpr h
    rw [List.getElem?_eq_getElem this, List.getElem_idxOf]
  · rw [List.getElem?_append_right (Nat.le_refl _), Nat.sub_self]; rfl
theorem mk_lt (ps : List Part) (p : Part) : (mk ps p).1 < (mk ps p).2.length := (List.getElem?_eq_some_iff.mp (mk_at ps p)).1
theorem mk_pre (ps : List Part) (p : Part) : ps <+: (mk ps p).2 := by unfold mk; split; exact List.prefix_refl _; exact List.prefix_append _ _
theorem mk_len (ps : List Part) (p : Part) : (mk ps p).2.length ≤ ps.length + 1 := by unfold mk; split <;> simp
theorem fin_lt {ps : List Part} {o : Op} {a b : Nat} (ha : a < ps.length) (hb : b < ps.length) (s : Sh) : (fin ps o a b s).1 < (fin ps o a b s).2.length := by
  cases s <;> first | exact ha | exact hb | exact mk_lt _ _
theorem fin_pre (ps : List Part) (o : Op) (a b : Nat) (s : Sh) : ps <+: (fin ps o a b s).2 := by cases s <;> first | exact List.prefix_refl _ | exact mk_pre _ _
theorem fin_len (ps : List Part) (o : Op) (a b : Nat) (s : Sh) : (fin ps o a b s).2.length ≤ ps.length + 1 := by cases s <;> first | exact Nat.le_succ _ | exact mk_len _ _
theorem mApply_lt {w : Nat} {ps : List Part} {o : Op} {a b : Nat} (ha : a < ps.length) (hb : b < ps.length) : (mApply w ps o a b).1 < (mApply w ps o a b).2.length := by
  unfold mApply; split
  · exact mk_lt _ _
  · split
    · exact fin_lt hb ha _
    · exact fin_lt ha hb _
theorem mApply_pre (w : Nat) (ps : List Part) (o : Op) (a b : Nat) : ps <+: (mApply w ps o a b).2 := by
  unfold mApply; split
  · exact mk_pre _ _
  · split <;> exact fin_pre _ _ _ _ _
theorem mApply_len (w : Nat) (ps : List Part) (o : Op) (a b : Nat) : (mApply w ps o a b).2.length ≤ ps.length + 1 := by
  unfold mApply; split
  · exact mk_len _ _
  · split <;> exact fin_len _ _ _ _ _
/-! ### well made pools -/
def GetOk (ps : List Part) : Prop := ∀ (k : Nat) (i : Int), ps[k]? = some (Part.get i) → 0 ≤ i ∧ i ≤ 63
def NumOk (w : Nat) (ps : List Part) : Prop := ∀ (k : Nat) (v : Int), ps[k]? = some (Part.num v) → 0 ≤ v ∧ v < 2 ^ w
def Ahead (n : Nat) : Part → Prop | .op _ a b => a < n ∧ b < n | _ => True
def PartOk (w : Nat) : Part → Prop | .num v => 0 ≤ v ∧ v < 2 ^ w | .get i => 0 ≤ i ∧ i ≤ 63 | .op _ _ _ => True
structure Ok (w : Nat) (ps : List Part) : Prop where
  wf : WF ps
  get : GetOk ps
  num : NumOk w ps
theorem ok_nil (w : Nat) : Ok w [] := ⟨fun _ _ _ _ e => by simp at e, fun _ _ e => by simp at e, fun _ _ e => by simp at e⟩
theorem ok_snoc {w : Nat} {ps : List Part} {p : Part} (h : Ok w ps) (ha : Ahead ps.length p) (hp : PartOk w p) : Ok w (ps ++ [p]) := by
  have at_ : ∀ {k : Nat} {q : Part}, (ps ++ [p])[k]? = some q → ps[k]? = some q ∨ (k = ps.length ∧ q = p) := by
    intro k q e
    by_cases hk : k < ps.length
    · rw [List.getElem?_append_left hk] at e; exact .inl e
    · have hl := (List.getElem?_eq_some_iff.mp e).1
      rw [List.length_append, List.length_singleton] at hl
      have ek : k = ps.length := by omega
      subst ek
      rw [List.getElem?_append_right (Nat.le_refl _), Nat.sub_self] at e
      cases e
      exact .inr ⟨rfl, rfl⟩
  refine ⟨fun k o a b e => ?_, fun k i e => ?_, fun k v e => ?_⟩
  · rcases at_ e with e | ⟨rfl, rfl⟩
    · exact h.wf _ _ _ _ e
    · exact ha
  · rcases at_ e with e | ⟨rfl, rfl⟩
    · exact h.get _ _ e
    · exact hp
  · rcases at_ e with e | ⟨rfl, rfl⟩
    · exact h.num _ _ e
    · exact hp
theorem ok_mk {w : Nat} {ps : List Part} {p : Part} (h : Ok w ps) (ha : Ahead ps.length p) (hp : PartOk w p) : Ok w (mk ps p).2 := by
  unfold mk; split
  · exact h
  · exact ok_snoc h ha hp
theorem pow_pos' (w : Nat) : (0 : Int) < 2 ^ w := Int.pow_pos (by decide)
theorem one_lt {w : Nat} (h : 1 ≤ w) : (1 : Int) < 2 ^ w := by
  obtain ⟨k, rfl⟩ : ∃ k, w = k + 1 := ⟨w - 1, by omega⟩
  have := pow_pos' k
  rw [Int.pow_succ]; omega
theorem and_range {w : Nat} {x y : Int} (hx : 0 ≤ x) (hy : 0 ≤ y) (hxw : x < 2 ^ w) (hyw : y < 2 ^ w) : 0 ≤ Builtin.bitAnd x y ∧ Builtin.bitAnd x y < 2 ^ w := by
  obtain ⟨a, rfl⟩ := Int.eq_ofNat_of_zero_le hx
  obtain ⟨b, rfl⟩ := Int.eq_ofNat_of_zero_le hy
  have e : Builtin.bitAnd (a : Int) (b : Int) = ((a &&& b : Nat) : Int) := by simp [Builtin.bitAnd]
  rw [e]
  refine ⟨by omega, ?_⟩
  have h2 : a < 2 ^ w := by exact_mod_cast hxw
  have := Nat.and_lt_two_pow (n := w) b (by exact_mod_cast hyw) |> fun _ => Nat.lt_of_le_of_lt (Nat.and_le_left (n := a) (m := b)) h2
  exact_mod_cast this
theorem or_range {w : Nat} {x y : Int} (hx : 0 ≤ x) (hy : 0 ≤ y) (hxw : x < 2 ^ w) (hyw : y < 2 ^ w) : 0 ≤ Builtin.bitOr x y ∧ Builtin.bitOr x y < 2 ^ w := by
  obtain ⟨a, rfl⟩ := Int.eq_ofNat_of_zero_le hx
  obtain ⟨b, rfl⟩ := Int.eq_ofNat_of_zero_le hy
  have e : Builtin.bitOr (a : Int) (b : Int) = ((a ||| b : Nat) : Int) := by rw [Bits.bitOr_pp (by omega) (by omega), Int.toNat_natCast, Int.toNat_natCast]
  rw [e]
  refine ⟨by omega, ?_⟩
  have := Nat.or_lt_two_pow (x := a) (y := b) (n := w) (by exact_mod_cast hxw) (by exact_mod_cast hyw)
  exact_mod_cast this
theorem xor_range {w : Nat} {x y : Int} (hx : 0 ≤ x) (hy : 0 ≤ y) (hxw : x < 2 ^ w) (hyw : y < 2 ^ w) : 0 ≤ Builtin.bitXor x y ∧ Builtin.bitXor x y < 2 ^ w := by
  obtain ⟨a, rfl⟩ := Int.eq_ofNat_of_zero_le hx
  obtain ⟨b, rfl⟩ := Int.eq_ofNat_of_zero_le hy
  have e : Builtin.bitXor (a : Int) (b : Int) = ((a ^^^ b : Nat) : Int) := by rw [Bits.bitXor_pp (by omega) (by omega), Int.toNat_natCast, Int.toNat_natCast]
  rw [e]
  refine ⟨by omega, ?_⟩
  have := Nat.xor_lt_two_pow (x := a) (y := b) (n := w) (by exact_mod_cast hxw) (by exact_mod_cast hyw)
  exact_mod_cast this
theorem opI_range {w : Nat} (h1 : 1 ≤ w) {o : Op} {x y : Int} (hx : 0 ≤ x ∧ x < 2 ^ w) (hy : 0 ≤ y ∧ y < 2 ^ w) : 0 ≤ opI w o x y ∧ opI w o x y < 2 ^ w := by
  have p := pow_pos' w
  have q := one_lt h1
  cases o <;> simp only [opI]
  · exact ⟨Int.emod_nonneg _ (by omega), Int.emod_lt_of_pos _ p⟩
  · exact ⟨Int.emod_nonneg _ (by omega), Int.emod_lt_of_pos _ p⟩
  · exact and_range hx.1 hy.1 hx.2 hy.2
  · exact or_range hx.1 hy.1 hx.2 hy.2
  · exact xor_range hx.1 hy.1 hx.2 hy.2
  · split <;> omega
  · split <;> omega
theorem word_ok {w : Nat} {ps : List Part} (h : Ok w ps) {a : Nat} {x : Int} (e : wordOf ps a = some x) : 0 ≤ x ∧ x < 2 ^ w := by
  unfold wordOf at e
  cases q : ps[a]? with
  | none => rw [q] at e; cases e
  | some p =>
    rw [q] at e
    cases p with
    | num v => cases e; exact h.num _ _ q
    | get i => cases e
    | op o a b => cases e
theorem ok_fin {w : Nat} (h1 : 1 ≤ w) {ps : List Part} (h : Ok w ps) {o : Op} {a b : Nat} (ha : a < ps.length) (hb : b < ps.length) (s : Sh) : Ok w (fin ps o a b s).2 := by
  cases s
  · exact h
  · exact h
  · exact ok_mk h trivial ⟨Int.le_refl _, pow_pos' w⟩
  · exact ok_mk h trivial ⟨by decide, one_lt h1⟩
  · exact ok_mk h ⟨ha, hb⟩ trivial
theorem ok_mApply {w : Nat} (h1 : 1 ≤ w) {ps : List Part} (h : Ok w ps) {o : Op} {a b : Nat} (ha : a < ps.length) (hb : b < ps.length) : Ok w (mApply w ps o a b).2 := by
  unfold mApply; split
  · rename_i x y ea eb
    exact ok_mk h trivial (opI_range h1 (word_ok h ea) (word_ok h eb))
  · split
    · exact ok_fin h1 h hb ha _
    · exact ok_fin h1 h ha hb _
end My

/-! R3 -/
namespace My
open PySem L2
/-! ### words of parts -/
def evV (w : Nat) (env : Int → Int) (acc : List Int) : Part → Int | .num v => v | .get i => env i | .op o a b => opI w o (acc.getD a 0) (acc.getD b 0)
def evStep (w : Nat) (env : Int → Int) (acc : List Int) (p : Part) : List Int := acc ++ [evV w env acc p]
def evs (w : Nat) (env : Int → Int) (ps : List Part) : List Int := ps.foldl (evStep w env) []
def evAt (w : Nat) (env : Int → Int) (ps : List Part) (k : Nat) : Int := (evs w env ps).getD k 0
theorem evs_snoc (w : Nat) (env : Int → Int) (ps : List Part) (p : Part) : evs w env (ps ++ [p]) = evs w env ps ++ [evV w env (evs w env ps) p] := by
  unfold evs; rw [List.foldl_append]; rfl
theorem snoc_ind {α : Type} {C : List α → Prop} (h0 : C []) (hs : ∀ l x, C l → C (l ++ [x])) : ∀ l, C l := by
  have : ∀ n (l : List α), l.length = n → C l := by
    intro n
    induction n with
    | zero => intro l h; rw [List.length_eq_zero_iff] at h; subst h; exact h0
    | succ n ih =>
      intro l h
      rcases List.eq_nil_or_concat l with rfl | ⟨l', x, rfl⟩
      · cases h
      · rw [List.concat_eq_append] at h ⊢
        rw [List.length_append, List.length_singleton] at h
        exact hs l' x (ih l' (by omega))
  intro l; exact this _ l rfl
theorem evs_len (w : Nat) (env : Int → Int) (ps : List Part) : (evs w env ps).length = ps.length := by
  refine snoc_ind (C := fun ps => (evs w env ps).length = ps.length) rfl (fun l x h => ?_) ps
  rw [evs_snoc, List.length_append, List.length_append, h]; rfl
theorem evs_app (w : Nat) (env : Int → Int) (ps : List Part) : ∀ qs : List Part, ∃ r, evs w env (ps ++ qs) = evs w env ps ++ r := by
  refine snoc_ind ⟨[], by simp⟩ (fun l x h => ?_)
  obtain ⟨r, h⟩ := h
  exact ⟨r ++ [evV w env (evs w env (ps ++ l)) x], by rw [← List.append_assoc, evs_snoc, h, List.append_assoc]⟩
theorem evAt_pre {w : Nat} {env : Int → Int} {ps qs : List Part} (h : ps <+: qs) {k : Nat} (hk : k < ps.length) : evAt w env qs k = evAt w env ps k := by
  obtain ⟨t, rfl⟩ := h
  obtain ⟨r, e⟩ := evs_app w env ps t
  unfold evAt
  rw [e, List.getD_eq_getElem?_getD, List.getD_eq_getElem?_getD, List.getElem?_append_left (by rw [evs_len]; exact hk)]
theorem evAt_eq {w : Nat} {env : Int → Int} {ps : List Part} (wf : WF ps) {k : Nat} {p : Part} (hp : ps[k]? = some p) :
    evAt w env ps k = match p with | .num v => v | .get i => env i | .op o a b => opI w o (evAt w env ps a) (evAt w env ps b) := by
  have hk := (List.getElem?_eq_some_iff.mp hp).1
  have e1 : ps = ps.take (k + 1) ++ ps.drop (k + 1) := (List.take_append_drop _ _).symm
  have et : ps.take (k + 1) = ps.take k ++ [p] := by rw [List.take_add_one, hp]; rfl
  have pre : ps.take k ++ [p] <+: ps := ⟨ps.drop (k + 1), by rw [← et]; exact List.take_append_drop _ _⟩
  have pre0 : ps.take k <+: ps := List.take_prefix _ _
  have hl : (ps.take k).length = k := by rw [List.length_take]; omega
  rw [evAt_pre pre (by rw [List.length_append, hl]; simp)]
  unfold evAt
  rw [evs_snoc, List.getD_eq_getElem?_getD, List.getElem?_append_right (by rw [evs_len, hl]; exact Nat.le_refl _), evs_len, hl, Nat.sub_self]
  cases p with
  | num v => rfl
  | get i => rfl
  | op o a b =>
    have hab := wf _ _ _ _ hp
    show opI w o (evAt w env (ps.take k) a) (evAt w env (ps.take k) b) = opI w o (evAt w env ps a) (evAt w env ps b)
    rw [evAt_pre pre0 (by omega), evAt_pre pre0 (by omega)]
/-! ### a term made again in another pool -/
def look (m : List (Nat × Nat)) (k : Nat) : Nat := ((m.find? fun x => decide (x.1 = k)).map (·.2)).getD 0
def dm (m : List (Nat × Nat)) : List (Key × V) := m.map fun (x : Nat × Nat) => (Sum.inl ((x.1 : Nat) : Int), V.int ((x.2 : Nat) : Int))
theorem dm_len (m : List (Nat × Nat)) : (dm m).length = m.length := by unfold dm; simp
theorem valV_dm (k : Nat) : ∀ m : List (Nat × Nat), valV (dm m) (Sum.inl (k : Int)) = if k ∈ m.map (·.1) then some (.int ((look m k : Nat) : Int)) else none
  | [] => rfl
  | x :: m => by
    have ih := valV_dm k m
    unfold dm at ih ⊢
    rw [List.map_cons, List.map_cons]
    by_cases e : x.1 = k
    · rw [valV_pos (by show Sum.inl ((x.1 : Nat) : Int) = Sum.inl (k : Int); rw [e]), if_pos (by rw [e]; exact List.mem_cons_self)]
      unfold look; rw [List.find?_cons, decide_eq_true e]; rfl
    · rw [valV_neg (fun z => e (by have := Sum.inl.inj z; exact Int.ofNat.inj this)), ih]
      have el : look (x :: m) k = look m k := by unfold look; rw [List.find?_cons, decide_eq_false e]
      rw [el]
      by_cases h : k ∈ m.map (·.1)
      · rw [if_pos h, if_pos (List.mem_cons_of_mem _ h)]
      · rw [if_neg h, if_neg (fun z => h ((List.mem_cons.mp z).resolve_left (fun y => e y.symm)))]
theorem dm_put {m : List (Nat × Nat)} {k v : Nat} (h : k ∉ m.map (·.1)) : putK (dm m) (Sum.inl (k : Int)) (.int (v : Int)) = dm (m ++ [(k, v)]) := by
  rw [putK_new _ (by rw [valV_dm, if_neg h])]; unfold dm; simp
theorem look_mem {m : List (Nat × Nat)} {k : Nat} (h : k ∈ m.map (·.1)) : (k, look m k) ∈ m := by
  induction m with
  | nil => simp at h
  | cons x m ih =>
    by_cases e : x.1 = k
    · have : look (x :: m) k = x.2 := by unfold look; rw [List.find?_cons, decide_eq_true e]; rfl
      rw [this, ← e]; exact List.mem_cons_self
    · have el : look (x :: m) k = look m k := by unfold look; rw [List.find?_cons, decide_eq_false e]
      rw [el]
      exact List.mem_cons_of_mem _ (ih ((List.mem_cons.mp h).resolve_left (fun y => e y.symm)))
theorem look_snoc_old {m : List (Nat × Nat)} {k : Nat} (x : Nat × Nat) (h : k ∈ m.map (·.1)) : look (m ++ [x]) k = look m k := by
  induction m with
  | nil => simp at h
  | cons y m ih =>
    by_cases e : y.1 = k
    · unfold look; rw [List.cons_append, List.find?_cons, List.find?_cons, decide_eq_true e]
    · have := ih ((List.mem_cons.mp h).resolve_left (fun z => e z.symm))
      unfold look at this ⊢; rw [List.cons_append, List.find?_cons, List.find?_cons, decide_eq_false e]; exact this
theorem look_snoc_new {m : List (Nat × Nat)} {k v : Nat} (h : k ∉ m.map (·.1)) : look (m ++ [(k, v)]) k = v := by
  induction m with
  | nil => unfold look; simp
  | cons y m ih =>
    have e : ¬ y.1 = k := fun e => h (by rw [← e]; exact List.mem_cons_self)
    have := ih (fun z => h (List.mem_cons_of_mem _ z))
    unfold look at this ⊢; rw [List.cons_append, List.find?_cons, decide_eq_false e]; exact this
def cstepR (w2 : Nat) (ps : List Part) (st : List Part × List (Nat × Nat)) (k : Nat) : Nat × List Part := match ps[k]? with
  | some (.op o a b) => mApply w2 st.1 o (look st.2 a) (look st.2 b)
  | some (.get i) => mk st.1 (.get i)
  | some (.num v) => mk st.1 (.num (v % 2 ^ w2))
  | none => (0, st.1)
def cstep (w2 : Nat) (ps : List Part) (st : List Part × List (Nat × Nat)) (k : Nat) : List Part × List (Nat × Nat) := ((cstepR w2 ps st k).2, st.2 ++ [(k, (cstepR w2 ps st k).1)])
def mCarry (w2 : Nat) (ps : List Part) (ks : List Nat) (qs : List Part) : List Part × List (Nat × Nat) := ks.foldl (cstep w2 ps) (qs, [])
/-- what holds behind the numbers done -/
structure CInv (w2 : Nat) (ps qs : List Part) (done : List Nat) (st : List Part × List (Nat × Nat)) : Prop where
  keys : st.2.map (fun (x : Nat × Nat) => x.1) = done
  lt : ∀ x : Nat × Nat, x ∈ st.2 → x.2 < st.1.length
  len : st.1.length ≤ qs.length + done.length
  ok : Ok w2 st.1
  pre : qs <+: st.1
theorem CInv.look {w2 : Nat} {ps qs : List Part} {done : List Nat} {st : List Part × List (Nat × Nat)} (c : CInv w2 ps qs done st) {a : Nat} (h : a ∈ done) : My.look st.2 a < st.1.length :=
  c.lt _ (look_mem (by rw [c.keys]; exact h))
theorem CInv.start {w2 : Nat} {ps qs : List Part} (h : Ok w2 qs) : CInv w2 ps qs [] (qs, []) := ⟨rfl, fun _ m => by simp at m, Nat.le_refl _, h, List.prefix_refl _⟩
theorem CInv.step {w2 : Nat} (h1 : 1 ≤ w2) {ps qs : List Part} {done : List Nat} {st : List Part × List (Nat × Nat)} {k : Nat} {p : Part} (c : CInv w2 ps qs done st) (hg : GetOk ps) (hp : ps[k]? = some p)
    (hab : ∀ o a b, p = Part.op o a b → a ∈ done ∧ b ∈ done) : CInv w2 ps qs (done ++ [k]) (cstep w2 ps st k) := by
  have key : (cstepR w2 ps st k).1 < (cstepR w2 ps st k).2.length ∧ (cstepR w2 ps st k).2.length ≤ st.1.length + 1 ∧ Ok w2 (cstepR w2 ps st k).2 ∧ st.1 <+: (cstepR w2 ps st k).2 := by
    unfold cstepR
    rw [hp]
    cases p with
    | num v => exact ⟨mk_lt _ _, mk_len _ _, ok_mk c.ok trivial ⟨Int.emod_nonneg _ (by have := pow_pos' w2; omega), Int.emod_lt_of_pos _ (pow_pos' w2)⟩, mk_pre _ _⟩
    | get i => exact ⟨mk_lt _ _, mk_len _ _, ok_mk c.ok trivial (hg _ _ hp), mk_pre _ _⟩
    | op o a b =>
      obtain ⟨ha, hb⟩ := hab o a b rfl
      exact ⟨mApply_lt (c.look ha) (c.look hb), mApply_len _ _ _ _ _, ok_mApply h1 c.ok (c.look ha) (c.look hb), mApply_pre _ _ _ _ _⟩
  refine ⟨?_, fun x hx => ?_, ?_, key.2.2.1, c.pre.trans key.2.2.2⟩
  · show (st.2 ++ [(k, (cstepR w2 ps st k).1)]).map (fun (x : Nat × Nat) => x.1) = _
    rw [List.map_append, c.keys]; rfl
  · rcases List.mem_append.mp hx with hx | hx
    · have := c.lt x hx
      have := key.2.2.2.length_le
      show x.2 < (cstepR w2 ps st k).2.length
      omega
    · simp at hx; subst hx; exact key.1
  · show (cstepR w2 ps st k).2.length ≤ _
    have := c.len
    rw [List.length_append, List.length_singleton]; omega
theorem asc_take {ks : List Nat} (h : ks.Pairwise (· < ·)) {i k z : Nat} (hk : ks[i]? = some k) (hz : z ∈ ks) (hzk : z < k) : z ∈ ks.take i := by
  obtain ⟨j, hj, rfl⟩ := List.getElem_of_mem hz
  have hi := (List.getElem?_eq_some_iff.mp hk).1
  have ek := (List.getElem?_eq_some_iff.mp hk).2
  by_cases hji : j < i
  · exact List.mem_take_iff_getElem.mpr ⟨j, by omega, rfl⟩
  · exfalso
    by_cases e : j = i
    · subst e; omega
    · have := List.pairwise_iff_getElem.mp h i j hi hj (by omega)
      omega
end My

/-! R4 -/
namespace My
open PySem L2
def dv (f : Nat → Int) (l : List Nat) : List (Key × V) := l.map fun (k : Nat) => (Sum.inl ((k : Nat) : Int), V.int (f k))
theorem dv_len (f : Nat → Int) (l : List Nat) : (dv f l).length = l.length := by unfold dv; simp
theorem valV_dv (f : Nat → Int) (k : Nat) : ∀ l : List Nat, valV (dv f l) (Sum.inl (k : Int)) = if k ∈ l then some (.int (f k)) else none
  | [] => rfl
  | j :: l => by
    have ih := valV_dv f k l
    unfold dv at ih ⊢
    rw [List.map_cons]
    by_cases e : j = k
    · subst e
      rw [valV_pos rfl, if_pos List.mem_cons_self]
    · rw [valV_neg (fun z => e (by have := Sum.inl.inj z; exact Int.ofNat.inj this)), ih]
      by_cases m : k ∈ l
      · rw [if_pos m, if_pos (List.mem_cons_of_mem _ m)]
      · rw [if_neg m, if_neg (fun z => m ((List.mem_cons.mp z).resolve_left (fun y => e y.symm)))]
theorem dv_put {f : Nat → Int} {l : List Nat} {k : Nat} (h : k ∉ l) : putK (dv f l) (Sum.inl (k : Int)) (.int (f k)) = dv f (l ++ [k]) := by
  rw [putK_new _ (by rw [valV_dv, if_neg h])]; unfold dv; simp
theorem not_in_take {ks : List Nat} (h : ks.Pairwise (· < ·)) {j k : Nat} (hk : ks[j]? = some k) : k ∉ ks.take j := by
  intro hm
  obtain ⟨j', hj', e⟩ := List.mem_take_iff_getElem.mp hm
  have hjl := (List.getElem?_eq_some_iff.mp hk).1
  have ejk := (List.getElem?_eq_some_iff.mp hk).2
  have := List.pairwise_iff_getElem.mp h j' j (by omega) hjl (by omega)
  omega
theorem take_snoc {α : Type} {l : List α} {j : Nat} {x : α} (h : l[j]? = some x) : l.take (j + 1) = l.take j ++ [x] := by rw [List.take_add_one, h]; rfl
def envOf (ws : List Int) : Int → Int := fun g => ws.getD g.toNat 0
end My

/-! R5 -/
namespace My
open PySem L2
/-! ### parts compared -/
def Part.pd : Part → PyData
  | .num v => .tuple [.str "num", .int v] | .get i => .tuple [.str "get", .int i] | .op o a b => .tuple [.str o.s, .int (a : Nat), .int (b : Nat)]
theorem dp_part {K : PySem.W.Frag} {H : Hp} {t : Addr} {p : Part} (h : H t = some (.tup p.vals)) : Dp K H (.ref t) p.pd := by
  cases p with
  | num v => exact .tup (SqT.of h) (.cons (.str _) (.cons (.int _) .nil))
  | get v => exact .tup (SqT.of h) (.cons (.str _) (.cons (.int _) .nil))
  | op o a b => exact .tup (SqT.of h) (.cons (.str _) (.cons (.int _) (.cons (.int _) .nil)))
theorem shaped_part (p : Part) : SeqAt.shaped p.pd = true := by
  have e1 : PyData.strOk (Str.ofString "num") = true := by decide +kernel
  have e2 : PyData.strOk (Str.ofString "get") = true := by decide +kernel
  have e3 : ∀ o : Op, PyData.strOk o.s = true := by intro o; cases o <;> decide +kernel
  cases p <;> simp [SeqAt.shaped, Part.pd, PyData.canLay0, PyData.canLayAll0, PyData.depth, PyData.depthAll, e1, e2, e3]
theorem beq_ofs (o o' : Op) : (o.s == o'.s) = decide (o = o') := by cases o <;> cases o' <;> decide +kernel
theorem eqv_pd (p q : Part) : PyData.eqv p.pd q.pd = decide (p = q) := by
  have n1 : (("num" : Str) == "get") = false := by decide +kernel
  have n2 : (("get" : Str) == "num") = false := by decide +kernel
  have n3 : (("get" : Str) == "get") = true := by decide +kernel
  have n4 : (("num" : Str) == "num") = true := by decide +kernel
  have bi : ∀ a b : Int, (a == b) = decide (a = b) := fun a b => by by_cases e : a = b <;> simp [e]
  have dec : ∀ {A B : Prop} [Decidable A] [Decidable B], (A ↔ B) → decide A = decide B := fun h => by simp [h]
  cases p with
  | num v => cases q with
    | num w => simp only [Part.pd, PyData.eqv, PyData.eqvAll, n4, bi, Bool.true_and, Bool.and_true]; exact dec ⟨fun e => by rw [e], fun e => by injection e⟩
    | get w => simp only [Part.pd, PyData.eqv, PyData.eqvAll, n1, Bool.false_and]; simp
    | op o a b => simp only [Part.pd, PyData.eqv, PyData.eqvAll, Bool.and_false]; simp
  | get v => cases q with
    | num w => simp only [Part.pd, PyData.eqv, PyData.eqvAll, n2, Bool.false_and]; simp
    | get w => simp only [Part.pd, PyData.eqv, PyData.eqvAll, n3, bi, Bool.true_and, Bool.and_true]; exact dec ⟨fun e => by rw [e], fun e => by injection e⟩
    | op o a b => simp only [Part.pd, PyData.eqv, PyData.eqvAll, Bool.and_false]; simp
  | op o a b => cases q with
    | num w => simp only [Part.pd, PyData.eqv, PyData.eqvAll, Bool.and_false]; simp
    | get w => simp only [Part.pd, PyData.eqv, PyData.eqvAll, Bool.and_false]; simp
    | op o' a' b' =>
      simp only [Part.pd, PyData.eqv, PyData.eqvAll, beq_ofs, bi, Bool.and_true]
      by_cases e1 : o = o' <;> by_cases e2 : a = a' <;> by_cases e3 : b = b' <;> simp [e1, e2, e3]
      all_goals (first | (intro z; omega) | omega | skip)
theorem eqT {K : PySem.W.Frag} {H : Hp} {t u : Addr} {p q : Part} {Q : VK} (ht : H t = some (.tup p.vals)) (hu : H u = some (.tup q.vals)) (h : Q (.bl (decide (p = q))) H) : rEqD K (.ref t) (.ref u) H Q :=
  ⟨p.pd, q.pd, dp_part ht, dp_part hu, shaped_part p, shaped_part q, by rw [eqv_pd]; exact h⟩
theorem idxOf_le {a : Part} : ∀ {l : List Part} {i : Nat}, l[i]? = some a → l.idxOf a ≤ i
  | [], i, h => by simp at h
  | x :: l, 0, h => by
    have e : x = a := Option.some.inj h
    subst e; simp
  | x :: l, i + 1, h => by
    have ih := idxOf_le (l := l) (i := i) (a := a) h
    rw [List.idxOf_cons]
    cases (x == a) <;> simp <;> omega
theorem word_iff (p : Part) (v : Int) : p.word = some v ↔ p = .num v := by cases p <;> simp [Part.word]
end My

/-! A -/
namespace My
open PySem L2
/-! ### the text by places -/
def top (i : Nat) : Stmt := PySem.Challenge.pw_selfwritten_k02_low_bits_at_every_width.main.body.getD i (.Pass ⟨0, 0, 0, 0⟩)
abbrev s_op_word : Stmt := top 11
abbrev s_shortened : Stmt := top 12
abbrev s_shortened_and : Stmt := top 13
abbrev s_shortened_twice : Stmt := top 14
abbrev s_is_int : Stmt := top 16
abbrev s_is_row : Stmt := top 17
abbrev s_check_int : Stmt := top 18
abbrev s_ones : Stmt := top 19
abbrev s_carried : Stmt := top 21
abbrev s_p_init : Stmt := inClass (top 25) 0
abbrev s_p_len : Stmt := inClass (top 25) 1
abbrev s_p_iter : Stmt := inClass (top 25) 2
abbrev s_p_check_part : Stmt := inClass (top 25) 4
abbrev s_p_check_parts : Stmt := inClass (top 25) 5
abbrev s_p_num : Stmt := inClass (top 25) 6
abbrev s_p_unknown : Stmt := inClass (top 25) 7
abbrev s_p_apply : Stmt := inClass (top 25) 8
abbrev s_p_part : Stmt := inClass (top 25) 9
abbrev s_p_value : Stmt := inClass (top 25) 10
abbrev s_p_reached : Stmt := inClass (top 25) 11
abbrev s_p_reached_by : Stmt := inClass (top 25) 12
abbrev s_p_made : Stmt := inClass (top 25) 16
abbrev s_p_word : Stmt := inClass (top 25) 17
abbrev s_p_gets : Stmt := inClass (top 25) 18
abbrev s_law_draws : Stmt := top 27
abbrev s_law_take : Stmt := top 28
abbrev s_law_word : Stmt := top 29
abbrev s_law_is_int : Stmt := top 30
abbrev s_law_op : Stmt := top 31
abbrev s_law_ops : Stmt := top 32
abbrev s_law_term_rows : Stmt := top 33
abbrev s_law_row_words : Stmt := top 34
abbrev s_law_all_rows : Stmt := top 35
abbrev s_law_keep : Stmt := top 36
abbrev s_law_short : Stmt := top 37
abbrev s_law_apply : Stmt := top 38
abbrev s_law_part : Stmt := top 39
abbrev s_law_asked : Stmt := top 40
abbrev s_law_reach : Stmt := top 41
abbrev s_law_moved : Stmt := top 42
abbrev s_law_pair_rows : Stmt := top 43
abbrev s_law_all_made : Stmt := top 44
abbrev s_law_low : Stmt := top 45
abbrev s_law_carried_well : Stmt := top 46
abbrev s_law_low_words : Stmt := top 47
abbrev s_law_twice : Stmt := top 48
abbrev s_law_pair_same : Stmt := top 49
abbrev s_law_doubled : Stmt := top 50
abbrev s_law_refused : Stmt := top 51
abbrev s_law : Stmt := top 52
theorem sc_op_word : FnScope ["name", "one", "other", "width"] ["name", "one", "other", "width"] (defScope s_op_word) := ⟨rfl, rfl, rfl, by decide +kernel, rfl, by decide +kernel, by decide +kernel⟩
theorem sc_shortened : FnScope ["name", "first", "second", "equal", "most"] ["name", "first", "second", "equal", "most"] (defScope s_shortened) := ⟨rfl, rfl, rfl, by decide +kernel, rfl, by decide +kernel, by decide +kernel⟩
theorem sc_shortened_and : FnScope ["first", "second", "equal", "most"] ["first", "second", "equal", "most"] (defScope s_shortened_and) := ⟨rfl, rfl, rfl, by decide +kernel, rfl, by decide +kernel, by decide +kernel⟩
theorem sc_shortened_twice : FnScope ["name"] ["name"] (defScope s_shortened_twice) := ⟨rfl, rfl, rfl, by decide +kernel, rfl, by decide +kernel, by decide +kernel⟩
theorem sc_is_int : FnScope ["value"] ["value"] (defScope s_is_int) := ⟨rfl, rfl, rfl, by decide +kernel, rfl, by decide +kernel, by decide +kernel⟩
theorem sc_is_row : FnScope ["value"] ["value"] (defScope s_is_row) := ⟨rfl, rfl, rfl, by decide +kernel, rfl, by decide +kernel, by decide +kernel⟩
theorem sc_check_int : FnScope ["value", "low", "high", "name"] ["value", "low", "high", "name"] (defScope s_check_int) := ⟨rfl, rfl, rfl, by decide +kernel, rfl, by decide +kernel, by decide +kernel⟩
theorem sc_ones : FnScope ["width"] ["width"] (defScope s_ones) := ⟨rfl, rfl, rfl, by decide +kernel, rfl, by decide +kernel, by decide +kernel⟩
theorem sc_carried : FnScope ["pool", "part", "other", "numbers", "most", "made", "number", "row"] ["pool", "part", "other"] (defScope s_carried) := ⟨rfl, rfl, rfl, by decide +kernel, rfl, by decide +kernel, by decide +kernel⟩
theorem sc_p_init : FnScope ["self", "width"] ["self", "width"] (defScope s_p_init) := ⟨rfl, rfl, rfl, by decide +kernel, rfl, by decide +kernel, by decide +kernel⟩
theorem sc_p_len : FnScope ["self"] ["self"] (defScope s_p_len) := ⟨rfl, rfl, rfl, by decide +kernel, rfl, by decide +kernel, by decide +kernel⟩
theorem sc_p_iter : FnScope ["self"] ["self"] (defScope s_p_iter) := ⟨rfl, rfl, rfl, by decide +kernel, rfl, by decide +kernel, by decide +kernel⟩
theorem sc_p_check_part : FnScope ["self", "number"] ["self", "number"] (defScope s_p_check_part) := ⟨rfl, rfl, rfl, by decide +kernel, rfl, by decide +kernel, by decide +kernel⟩
theorem sc_p_check_parts : FnScope ["self", "numbers", "number"] ["self", "numbers"] (defScope s_p_check_parts) := ⟨rfl, rfl, rfl, by decide +kernel, rfl, by decide +kernel, by decide +kernel⟩
theorem sc_p_num : FnScope ["self", "value"] ["self", "value"] (defScope s_p_num) := ⟨rfl, rfl, rfl, by decide +kernel, rfl, by decide +kernel, by decide +kernel⟩
theorem sc_p_unknown : FnScope ["self", "number"] ["self", "number"] (defScope s_p_unknown) := ⟨rfl, rfl, rfl, by decide +kernel, rfl, by decide +kernel, by decide +kernel⟩
theorem sc_p_apply : FnScope ["self", "name", "one", "other", "first", "second", "short"] ["self", "name", "one", "other"] (defScope s_p_apply) := ⟨rfl, rfl, rfl, by decide +kernel, rfl, by decide +kernel, by decide +kernel⟩
theorem sc_p_part : FnScope ["self", "number"] ["self", "number"] (defScope s_p_part) := ⟨rfl, rfl, rfl, by decide +kernel, rfl, by decide +kernel, by decide +kernel⟩
theorem sc_p_value : FnScope ["self", "number", "words", "numbers", "i", "found", "at", "part"] ["self", "number", "words"] (defScope s_p_value) := ⟨rfl, rfl, rfl, by decide +kernel, rfl, by decide +kernel, by decide +kernel⟩
theorem sc_p_reached : FnScope ["self", "number"] ["self", "number"] (defScope s_p_reached) := ⟨rfl, rfl, rfl, by decide +kernel, rfl, by decide +kernel, by decide +kernel⟩
theorem sc_p_reached_by : FnScope ["self", "numbers", "found", "waiting", "part", "operand", "number"] ["self", "numbers"] (defScope s_p_reached_by) := ⟨rfl, rfl, rfl, by decide +kernel, rfl, by decide +kernel, by decide +kernel⟩
theorem sc_p_made : FnScope ["self", "part"] ["self", "part"] (defScope s_p_made) := ⟨rfl, rfl, rfl, by decide +kernel, rfl, by decide +kernel, by decide +kernel⟩
theorem sc_p_word : FnScope ["self", "number", "part"] ["self", "number"] (defScope s_p_word) := ⟨rfl, rfl, rfl, by decide +kernel, rfl, by decide +kernel, by decide +kernel⟩
theorem sc_p_gets : FnScope ["self", "numbers", "parts", "number", "part"] ["self", "numbers"] (defScope s_p_gets) := ⟨rfl, rfl, rfl, by decide +kernel, rfl, by decide +kernel, by decide +kernel⟩
theorem sc_law_draws : FnScope ["_law_script", "_law_numbers", "_law_at", "_law_cell", "_law_sign", "_law_turn", "_law_mixed"] ["_law_script"] (defScope s_law_draws) := ⟨rfl, rfl, rfl, by decide +kernel, rfl, by decide +kernel, by decide +kernel⟩
theorem sc_law_take : FnScope ["_law_draws_here", "_law_many", "_law_at"] ["_law_draws_here", "_law_many"] (defScope s_law_take) := ⟨rfl, rfl, rfl, by decide +kernel, rfl, by decide +kernel, by decide +kernel⟩
theorem sc_law_word : FnScope ["_law_draws_here", "_law_width", "_law_high", "_law_low_here", "_law_special"] ["_law_draws_here", "_law_width"] (defScope s_law_word) := ⟨rfl, rfl, rfl, by decide +kernel, rfl, by decide +kernel, by decide +kernel⟩
theorem sc_law_is_int : FnScope ["_law_thing"] ["_law_thing"] (defScope s_law_is_int) := ⟨rfl, rfl, rfl, by decide +kernel, rfl, by decide +kernel, by decide +kernel⟩
theorem sc_law_op : FnScope ["_law_name", "_law_one", "_law_other", "_law_width"] ["_law_name", "_law_one", "_law_other", "_law_width"] (defScope s_law_op) := ⟨rfl, rfl, rfl, by decide +kernel, rfl, by decide +kernel, by decide +kernel⟩
theorem sc_law_ops : FnScope [] [] (defScope s_law_ops) := ⟨rfl, rfl, rfl, by decide +kernel, rfl, by decide +kernel, by decide +kernel⟩
theorem sc_law_term_rows : FnScope ["_law_draws_here", "_law_unknowns", "_law_width", "_law_many", "_law_plain", "_law_rows", "_law_i", "_law_turn", "_law_names", "_law_name", "_law_one", "_law_other"] ["_law_draws_here", "_law_unknowns", "_law_width", "_law_many", "_law_plain"] (defScope s_law_term_rows) := ⟨rfl, rfl, rfl, by decide +kernel, rfl, by decide +kernel, by decide +kernel⟩
theorem sc_law_row_words : FnScope ["_law_rows", "_law_words", "_law_width", "_law_found", "_law_row"] ["_law_rows", "_law_words", "_law_width"] (defScope s_law_row_words) := ⟨rfl, rfl, rfl, by decide +kernel, rfl, by decide +kernel, by decide +kernel⟩
theorem sc_law_all_rows : FnScope ["_law_limits", "_law_rows", "_law_bits", "_law_longer", "_law_row", "_law_word_here"] ["_law_limits"] (defScope s_law_all_rows) := ⟨rfl, rfl, rfl, by decide +kernel, rfl, by decide +kernel, by decide +kernel⟩
theorem sc_law_keep : FnScope ["_law_parts", "_law_part_here", "_law_at"] ["_law_parts", "_law_part_here"] (defScope s_law_keep) := ⟨rfl, rfl, rfl, by decide +kernel, rfl, by decide +kernel, by decide +kernel⟩
theorem sc_law_short : FnScope ["_law_parts", "_law_width", "_law_name", "_law_one", "_law_other", "_law_zero"] ["_law_parts", "_law_width", "_law_name", "_law_one", "_law_other"] (defScope s_law_short) := ⟨rfl, rfl, rfl, by decide +kernel, rfl, by decide +kernel, by decide +kernel⟩
theorem sc_law_apply : FnScope ["_law_parts", "_law_width", "_law_name", "_law_one", "_law_other", "_law_found"] ["_law_parts", "_law_width", "_law_name", "_law_one", "_law_other"] (defScope s_law_apply) := ⟨rfl, rfl, rfl, by decide +kernel, rfl, by decide +kernel, by decide +kernel⟩
theorem sc_law_part : FnScope ["_law_parts", "_law_width", "_law_row", "_law_places"] ["_law_parts", "_law_width", "_law_row", "_law_places"] (defScope s_law_part) := ⟨rfl, rfl, rfl, by decide +kernel, rfl, by decide +kernel, by decide +kernel⟩
theorem sc_law_asked : FnScope ["_law_pool", "_law_row", "_law_places"] ["_law_pool", "_law_row", "_law_places"] (defScope s_law_asked) := ⟨rfl, rfl, rfl, by decide +kernel, rfl, by decide +kernel, by decide +kernel⟩
theorem sc_law_reach : FnScope ["_law_parts", "_law_numbers", "_law_marks", "_law_number", "_law_back", "_law_at", "_law_part_here"] ["_law_parts", "_law_numbers"] (defScope s_law_reach) := ⟨rfl, rfl, rfl, by decide +kernel, rfl, by decide +kernel, by decide +kernel⟩
theorem sc_law_moved : FnScope ["_law_parts", "_law_number", "_law_width", "_law_made", "_law_turned", "_law_at", "_law_part_here"] ["_law_parts", "_law_number", "_law_width", "_law_made"] (defScope s_law_moved) := ⟨rfl, rfl, rfl, by decide +kernel, rfl, by decide +kernel, by decide +kernel⟩
theorem sc_law_pair_rows : FnScope ["_law_draws_here", "_law_rows", "_law_x", "_law_y", "_law_there", "_law_back"] ["_law_draws_here", "_law_rows"] (defScope s_law_pair_rows) := ⟨rfl, rfl, rfl, by decide +kernel, rfl, by decide +kernel, by decide +kernel⟩
theorem sc_law_all_made : FnScope ["_law_pool", "_law_parts", "_law_width", "_law_rows", "_law_places", "_law_row", "_law_due"] ["_law_pool", "_law_parts", "_law_width", "_law_rows"] (defScope s_law_all_made) := ⟨rfl, rfl, rfl, by decide +kernel, rfl, by decide +kernel, by decide +kernel⟩
theorem sc_law_low : FnScope ["_law_words", "_law_width", "_law_word_here"] ["_law_words", "_law_width"] (defScope s_law_low) := ⟨rfl, rfl, rfl, by decide +kernel, rfl, by decide +kernel, by decide +kernel⟩
theorem sc_law_carried_well : FnScope ["_law_pool", "_law_parts", "_law_number", "_law_other", "_law_made", "_law_width", "_law_due", "_law_told"] ["_law_pool", "_law_parts", "_law_number", "_law_other", "_law_made", "_law_width"] (defScope s_law_carried_well) := ⟨rfl, rfl, rfl, by decide +kernel, rfl, by decide +kernel, by decide +kernel⟩
theorem sc_law_low_words : FnScope ["_law_pool", "_law_part_here", "_law_words", "_law_due", "_law_width", "_law_told"] ["_law_pool", "_law_part_here", "_law_words", "_law_due", "_law_width"] (defScope s_law_low_words) := ⟨rfl, rfl, rfl, by decide +kernel, rfl, by decide +kernel, by decide +kernel⟩
theorem sc_law_twice : FnScope ["_law_pool", "_law_parts", "_law_number", "_law_words", "_law_due", "_law_width", "_law_middle", "_law_made", "_law_first", "_law_low_here", "_law_other", "_law_part_here"] ["_law_pool", "_law_parts", "_law_number", "_law_words", "_law_due", "_law_width"] (defScope s_law_twice) := ⟨rfl, rfl, rfl, by decide +kernel, rfl, by decide +kernel, by decide +kernel⟩
theorem sc_law_pair_same : FnScope ["_law_pool", "_law_one", "_law_other", "_law_unknowns", "_law_width", "_law_low_here", "_law_left", "_law_right", "_law_wrong", "_law_limits", "_law_words", "_law_i"] ["_law_pool", "_law_one", "_law_other", "_law_unknowns", "_law_width"] (defScope s_law_pair_same) := ⟨rfl, rfl, rfl, by decide +kernel, rfl, by decide +kernel, by decide +kernel⟩
theorem sc_law_doubled : FnScope ["_law_width", "_law_pool", "_law_x", "_law_part_here", "_law_one", "_law_two", "_law_at_one", "_law_at_two"] ["_law_width"] (defScope s_law_doubled) := ⟨rfl, rfl, rfl, by decide +kernel, rfl, by decide +kernel, by decide +kernel⟩
theorem sc_law_refused : FnScope ["_law_pool", "_law_number", "_law_other", "_law_told"] ["_law_pool", "_law_number", "_law_other"] (defScope s_law_refused) := ⟨rfl, rfl, rfl, by decide +kernel, rfl, by decide +kernel, by decide +kernel⟩
theorem sc_law : FnScope ["_law_script", "_law_draws_here", "_law_width", "_law_unknowns", "_law_plain", "_law_rows", "_law_twin", "_law_pool", "_law_parts", "_law_places", "_law_words", "_law_i", "_law_due", "_law_last", "_law_low_here", "_law_other", "_law_made", "_law_at", "_law_bad"] ["_law_script"] (defScope s_law) := ⟨rfl, rfl, rfl, by decide +kernel, rfl, by decide +kernel, by decide +kernel⟩
structure Txt (K : PySem.W.Frag) (mg : Str → Option Value) where
  f_op_word : Addr
  fd_op_word : FuncData
  F_op_word : Fun K "op_word" "op_word" s_op_word f_op_word fd_op_word
  b_op_word : Binds K fd_op_word ["name", "one", "other", "width"] []
  g_op_word : mg "op_word" = some (.ref f_op_word)
  f_shortened : Addr
  fd_shortened : FuncData
  F_shortened : Fun K "shortened" "shortened" s_shortened f_shortened fd_shortened
  b_shortened : Binds K fd_shortened ["name", "first", "second", "equal", "most"] []
  g_shortened : mg "shortened" = some (.ref f_shortened)
  f_shortened_and : Addr
  fd_shortened_and : FuncData
  F_shortened_and : Fun K "shortened_and" "shortened_and" s_shortened_and f_shortened_and fd_shortened_and
  b_shortened_and : Binds K fd_shortened_and ["first", "second", "equal", "most"] []
  g_shortened_and : mg "shortened_and" = some (.ref f_shortened_and)
  f_shortened_twice : Addr
  fd_shortened_twice : FuncData
  F_shortened_twice : Fun K "shortened_twice" "shortened_twice" s_shortened_twice f_shortened_twice fd_shortened_twice
  b_shortened_twice : Binds K fd_shortened_twice ["name"] []
  g_shortened_twice : mg "shortened_twice" = some (.ref f_shortened_twice)
  f_is_int : Addr
  fd_is_int : FuncData
  F_is_int : Fun K "is_int" "is_int" s_is_int f_is_int fd_is_int
  b_is_int : Binds K fd_is_int ["value"] []
  g_is_int : mg "is_int" = some (.ref f_is_int)
  f_is_row : Addr
  fd_is_row : FuncData
  F_is_row : Fun K "is_row" "is_row" s_is_row f_is_row fd_is_row
  b_is_row : Binds K fd_is_row ["value"] []
  g_is_row : mg "is_row" = some (.ref f_is_row)
  f_check_int : Addr
  fd_check_int : FuncData
  F_check_int : Fun K "check_int" "check_int" s_check_int f_check_int fd_check_int
  b_check_int : Binds K fd_check_int ["value", "low", "high", "name"] []
  g_check_int : mg "check_int" = some (.ref f_check_int)
  f_ones : Addr
  fd_ones : FuncData
  F_ones : Fun K "ones" "ones" s_ones f_ones fd_ones
  b_ones : Binds K fd_ones ["width"] []
  g_ones : mg "ones" = some (.ref f_ones)
  f_carried : Addr
  fd_carried : FuncData
  F_carried : Fun K "carried" "carried" s_carried f_carried fd_carried
  b_carried : Binds K fd_carried ["pool", "part", "other"] []
  g_carried : mg "carried" = some (.ref f_carried)
  f_p_init : Addr
  fd_p_init : FuncData
  F_p_init : Fun K "__init__" "Pool.__init__" s_p_init f_p_init fd_p_init
  b_p_init : Binds K fd_p_init ["self", "width"] []
  f_p_len : Addr
  fd_p_len : FuncData
  F_p_len : Fun K "__len__" "Pool.__len__" s_p_len f_p_len fd_p_len
  b_p_len : Binds K fd_p_len ["self"] []
  f_p_iter : Addr
  fd_p_iter : FuncData
  F_p_iter : Fun K "__iter__" "Pool.__iter__" s_p_iter f_p_iter fd_p_iter
  b_p_iter : Binds K fd_p_iter ["self"] []
  f_p_check_part : Addr
  fd_p_check_part : FuncData
  F_p_check_part : Fun K "check_part" "Pool.check_part" s_p_check_part f_p_check_part fd_p_check_part
  b_p_check_part : Binds K fd_p_check_part ["self", "number"] []
  f_p_check_parts : Addr
  fd_p_check_parts : FuncData
  F_p_check_parts : Fun K "check_parts" "Pool.check_parts" s_p_check_parts f_p_check_parts fd_p_check_parts
  b_p_check_parts : Binds K fd_p_check_parts ["self", "numbers"] []
  f_p_num : Addr
  fd_p_num : FuncData
  F_p_num : Fun K "num" "Pool.num" s_p_num f_p_num fd_p_num
  b_p_num : Binds K fd_p_num ["self", "value"] []
  f_p_unknown : Addr
  fd_p_unknown : FuncData
  F_p_unknown : Fun K "unknown" "Pool.unknown" s_p_unknown f_p_unknown fd_p_unknown
  b_p_unknown : Binds K fd_p_unknown ["self", "number"] []
  f_p_apply : Addr
  fd_p_apply : FuncData
  F_p_apply : Fun K "apply" "Pool.apply" s_p_apply f_p_apply fd_p_apply
  b_p_apply : Binds K fd_p_apply ["self", "name", "one", "other"] []
  f_p_part : Addr
  fd_p_part : FuncData
  F_p_part : Fun K "part" "Pool.part" s_p_part f_p_part fd_p_part
  b_p_part : Binds K fd_p_part ["self", "number"] []
  f_p_value : Addr
  fd_p_value : FuncData
  F_p_value : Fun K "value" "Pool.value" s_p_value f_p_value fd_p_value
  b_p_value : Binds K fd_p_value ["self", "number", "words"] []
  f_p_reached : Addr
  fd_p_reached : FuncData
  F_p_reached : Fun K "reached" "Pool.reached" s_p_reached f_p_reached fd_p_reached
  b_p_reached : Binds K fd_p_reached ["self", "number"] []
  f_p_reached_by : Addr
  fd_p_reached_by : FuncData
  F_p_reached_by : Fun K "reached_by" "Pool.reached_by" s_p_reached_by f_p_reached_by fd_p_reached_by
  b_p_reached_by : Binds K fd_p_reached_by ["self", "numbers"] []
  f_p_made : Addr
  fd_p_made : FuncData
  F_p_made : Fun K "_made" "Pool._made" s_p_made f_p_made fd_p_made
  b_p_made : Binds K fd_p_made ["self", "part"] []
  f_p_word : Addr
  fd_p_word : FuncData
  F_p_word : Fun K "_word" "Pool._word" s_p_word f_p_word fd_p_word
  b_p_word : Binds K fd_p_word ["self", "number"] []
  f_p_gets : Addr
  fd_p_gets : FuncData
  F_p_gets : Fun K "_gets" "Pool._gets" s_p_gets f_p_gets fd_p_gets
  b_p_gets : Binds K fd_p_gets ["self", "numbers"] []
  f_law_draws : Addr
  fd_law_draws : FuncData
  F_law_draws : Fun K "_law_draws" "_law_draws" s_law_draws f_law_draws fd_law_draws
  b_law_draws : Binds K fd_law_draws ["_law_script"] []
  g_law_draws : mg "_law_draws" = some (.ref f_law_draws)
  f_law_take : Addr
  fd_law_take : FuncData
  F_law_take : Fun K "_law_take" "_law_take" s_law_take f_law_take fd_law_take
  b_law_take : Binds K fd_law_take ["_law_draws_here", "_law_many"] []
  g_law_take : mg "_law_take" = some (.ref f_law_take)
  f_law_word : Addr
  fd_law_word : FuncData
  F_law_word : Fun K "_law_word" "_law_word" s_law_word f_law_word fd_law_word
  b_law_word : Binds K fd_law_word ["_law_draws_here", "_law_width"] []
  g_law_word : mg "_law_word" = some (.ref f_law_word)
  f_law_is_int : Addr
  fd_law_is_int : FuncData
  F_law_is_int : Fun K "_law_is_int" "_law_is_int" s_law_is_int f_law_is_int fd_law_is_int
  b_law_is_int : Binds K fd_law_is_int ["_law_thing"] []
  g_law_is_int : mg "_law_is_int" = some (.ref f_law_is_int)
  f_law_op : Addr
  fd_law_op : FuncData
  F_law_op : Fun K "_law_op" "_law_op" s_law_op f_law_op fd_law_op
  b_law_op : Binds K fd_law_op ["_law_name", "_law_one", "_law_other", "_law_width"] []
  g_law_op : mg "_law_op" = some (.ref f_law_op)
  f_law_ops : Addr
  fd_law_ops : FuncData
  F_law_ops : Fun K "_law_ops" "_law_ops" s_law_ops f_law_ops fd_law_ops
  b_law_ops : Binds K fd_law_ops [] []
  g_law_ops : mg "_law_ops" = some (.ref f_law_ops)
  f_law_term_rows : Addr
  fd_law_term_rows : FuncData
  F_law_term_rows : Fun K "_law_term_rows" "_law_term_rows" s_law_term_rows f_law_term_rows fd_law_term_rows
  b_law_term_rows : Binds K fd_law_term_rows ["_law_draws_here", "_law_unknowns", "_law_width", "_law_many", "_law_plain"] []
  g_law_term_rows : mg "_law_term_rows" = some (.ref f_law_term_rows)
  f_law_row_words : Addr
  fd_law_row_words : FuncData
  F_law_row_words : Fun K "_law_row_words" "_law_row_words" s_law_row_words f_law_row_words fd_law_row_words
  b_law_row_words : Binds K fd_law_row_words ["_law_rows", "_law_words", "_law_width"] []
  g_law_row_words : mg "_law_row_words" = some (.ref f_law_row_words)
  f_law_all_rows : Addr
  fd_law_all_rows : FuncData
  F_law_all_rows : Fun K "_law_all_rows" "_law_all_rows" s_law_all_rows f_law_all_rows fd_law_all_rows
  b_law_all_rows : Binds K fd_law_all_rows ["_law_limits"] []
  g_law_all_rows : mg "_law_all_rows" = some (.ref f_law_all_rows)
  f_law_keep : Addr
  fd_law_keep : FuncData
  F_law_keep : Fun K "_law_keep" "_law_keep" s_law_keep f_law_keep fd_law_keep
  b_law_keep : Binds K fd_law_keep ["_law_parts", "_law_part_here"] []
  g_law_keep : mg "_law_keep" = some (.ref f_law_keep)
  f_law_short : Addr
  fd_law_short : FuncData
  F_law_short : Fun K "_law_short" "_law_short" s_law_short f_law_short fd_law_short
  b_law_short : Binds K fd_law_short ["_law_parts", "_law_width", "_law_name", "_law_one", "_law_other"] []
  g_law_short : mg "_law_short" = some (.ref f_law_short)
  f_law_apply : Addr
  fd_law_apply : FuncData
  F_law_apply : Fun K "_law_apply" "_law_apply" s_law_apply f_law_apply fd_law_apply
  b_law_apply : Binds K fd_law_apply ["_law_parts", "_law_width", "_law_name", "_law_one", "_law_other"] []
  g_law_apply : mg "_law_apply" = some (.ref f_law_apply)
  f_law_part : Addr
  fd_law_part : FuncData
  F_law_part : Fun K "_law_part" "_law_part" s_law_part f_law_part fd_law_part
  b_law_part : Binds K fd_law_part ["_law_parts", "_law_width", "_law_row", "_law_places"] []
  g_law_part : mg "_law_part" = some (.ref f_law_part)
  f_law_asked : Addr
  fd_law_asked : FuncData
  F_law_asked : Fun K "_law_asked" "_law_asked" s_law_asked f_law_asked fd_law_asked
  b_law_asked : Binds K fd_law_asked ["_law_pool", "_law_row", "_law_places"] []
  g_law_asked : mg "_law_asked" = some (.ref f_law_asked)
  f_law_reach : Addr
  fd_law_reach : FuncData
  F_law_reach : Fun K "_law_reach" "_law_reach" s_law_reach f_law_reach fd_law_reach
  b_law_reach : Binds K fd_law_reach ["_law_parts", "_law_numbers"] []
  g_law_reach : mg "_law_reach" = some (.ref f_law_reach)
  f_law_moved : Addr
  fd_law_moved : FuncData
  F_law_moved : Fun K "_law_moved" "_law_moved" s_law_moved f_law_moved fd_law_moved
  b_law_moved : Binds K fd_law_moved ["_law_parts", "_law_number", "_law_width", "_law_made"] []
  g_law_moved : mg "_law_moved" = some (.ref f_law_moved)
  f_law_pair_rows : Addr
  fd_law_pair_rows : FuncData
  F_law_pair_rows : Fun K "_law_pair_rows" "_law_pair_rows" s_law_pair_rows f_law_pair_rows fd_law_pair_rows
  b_law_pair_rows : Binds K fd_law_pair_rows ["_law_draws_here", "_law_rows"] []
  g_law_pair_rows : mg "_law_pair_rows" = some (.ref f_law_pair_rows)
  f_law_all_made : Addr
  fd_law_all_made : FuncData
  F_law_all_made : Fun K "_law_all_made" "_law_all_made" s_law_all_made f_law_all_made fd_law_all_made
  b_law_all_made : Binds K fd_law_all_made ["_law_pool", "_law_parts", "_law_width", "_law_rows"] []
  g_law_all_made : mg "_law_all_made" = some (.ref f_law_all_made)
  f_law_low : Addr
  fd_law_low : FuncData
  F_law_low : Fun K "_law_low" "_law_low" s_law_low f_law_low fd_law_low
  b_law_low : Binds K fd_law_low ["_law_words", "_law_width"] []
  g_law_low : mg "_law_low" = some (.ref f_law_low)
  f_law_carried_well : Addr
  fd_law_carried_well : FuncData
  F_law_carried_well : Fun K "_law_carried_well" "_law_carried_well" s_law_carried_well f_law_carried_well fd_law_carried_well
  b_law_carried_well : Binds K fd_law_carried_well ["_law_pool", "_law_parts", "_law_number", "_law_other", "_law_made", "_law_width"] []
  g_law_carried_well : mg "_law_carried_well" = some (.ref f_law_carried_well)
  f_law_low_words : Addr
  fd_law_low_words : FuncData
  F_law_low_words : Fun K "_law_low_words" "_law_low_words" s_law_low_words f_law_low_words fd_law_low_words
  b_law_low_words : Binds K fd_law_low_words ["_law_pool", "_law_part_here", "_law_words", "_law_due", "_law_width"] []
  g_law_low_words : mg "_law_low_words" = some (.ref f_law_low_words)
  f_law_twice : Addr
  fd_law_twice : FuncData
  F_law_twice : Fun K "_law_twice" "_law_twice" s_law_twice f_law_twice fd_law_twice
  b_law_twice : Binds K fd_law_twice ["_law_pool", "_law_parts", "_law_number", "_law_words", "_law_due", "_law_width"] []
  g_law_twice : mg "_law_twice" = some (.ref f_law_twice)
  f_law_pair_same : Addr
  fd_law_pair_same : FuncData
  F_law_pair_same : Fun K "_law_pair_same" "_law_pair_same" s_law_pair_same f_law_pair_same fd_law_pair_same
  b_law_pair_same : Binds K fd_law_pair_same ["_law_pool", "_law_one", "_law_other", "_law_unknowns", "_law_width"] []
  g_law_pair_same : mg "_law_pair_same" = some (.ref f_law_pair_same)
  f_law_doubled : Addr
  fd_law_doubled : FuncData
  F_law_doubled : Fun K "_law_doubled" "_law_doubled" s_law_doubled f_law_doubled fd_law_doubled
  b_law_doubled : Binds K fd_law_doubled ["_law_width"] []
  g_law_doubled : mg "_law_doubled" = some (.ref f_law_doubled)
  f_law_refused : Addr
  fd_law_refused : FuncData
  F_law_refused : Fun K "_law_refused" "_law_refused" s_law_refused f_law_refused fd_law_refused
  b_law_refused : Binds K fd_law_refused ["_law_pool", "_law_number", "_law_other"] []
  g_law_refused : mg "_law_refused" = some (.ref f_law_refused)
  f_law : Addr
  fd_law : FuncData
  F_law : Fun K "law" "law" s_law f_law fd_law
  b_law : Binds K fd_law ["_law_script"] []
  g_law : mg "law" = some (.ref f_law)
  C : Addr
  cl : Cls K C
  g_Pool : mg "Pool" = some (.ref C)
  M_Pool : Mk K C f_p_init
  m_p_init : Meth K C "__init__" f_p_init
  m_p_len : Meth K C "__len__" f_p_len
  m_p_iter : Meth K C "__iter__" f_p_iter
  m_p_check_part : Meth K C "check_part" f_p_check_part
  m_p_check_parts : Meth K C "check_parts" f_p_check_parts
  m_p_num : Meth K C "num" f_p_num
  m_p_unknown : Meth K C "unknown" f_p_unknown
  m_p_apply : Meth K C "apply" f_p_apply
  m_p_part : Meth K C "part" f_p_part
  m_p_value : Meth K C "value" f_p_value
  m_p_reached : Meth K C "reached" f_p_reached
  m_p_reached_by : Meth K C "reached_by" f_p_reached_by
  m_p_made : Meth K C "_made" f_p_made
  m_p_word : Meth K C "_word" f_p_word
  m_p_gets : Meth K C "_gets" f_p_gets
  nA_width : NoAttr K C "width"
  nA__most : NoAttr K C "_most"
  nA__parts : NoAttr K C "_parts"
  nA__numbers : NoAttr K C "_numbers"
  t_MOST_PARTS : Tok
  c_MOST_PARTS : mg "MOST_PARTS" = some (.int 4000 t_MOST_PARTS)
  t_LAST_UNKNOWN : Tok
  c_LAST_UNKNOWN : mg "LAST_UNKNOWN" = some (.int 63 t_LAST_UNKNOWN)
  a_OPS : Addr
  c_OPS : mg "OPS" = some (.ref a_OPS)
  v_OPS : ∀ H, SqT K H a_OPS [.str "add", .str "sub", .str "and", .str "or", .str "xor", .str "less", .str "same"]
  a_EITHER_WAY : Addr
  c_EITHER_WAY : mg "EITHER_WAY" = some (.ref a_EITHER_WAY)
  v_EITHER_WAY : ∀ H, SqT K H a_EITHER_WAY [.str "add", .str "and", .str "or", .str "xor", .str "same"]
  n_len : mg "len" = none
  n_list : mg "list" = none
  n_tuple : mg "tuple" = none
  n_int : mg "int" = none
  n_min : mg "min" = none
  n_range : mg "range" = none
  n_isinstance : mg "isinstance" = none
  n_sorted : mg "sorted" = none
  n_bool : mg "bool" = none
  n_iter : mg "iter" = none
  C_BadPart : Addr
  g_BadPart : mg "BadPart" = some (.ref C_BadPart)
  k_BadPart : PySem.W.keepIn K (.ref C_BadPart) = true
  x_BadPart : PySem.W.excIn K C_BadPart [.type "Exception", .type "BaseException", .type "object"] "Exception.__new__" = true
  sb_BadPart : PySem.W.subIn K (.ref C_BadPart) (.type "BaseException") = some true
  ty_BadPart : PySem.W.typeIn K (.ref C_BadPart) = some (.type "type")
  te_BadPart : PySem.W.exmOne K (.ref C_BadPart) (.ref C_BadPart) = some true
end My

/-! B -/
namespace My
open PySem L2
local macro_rules | `(tactic| walk_at "side") => `(tactic| first | with_reducible rfl | assumption | rfl | decide | omega | exact cpow1 (by omega) (by omega) | exact cdiv (by omega) (by omega) | exact two_pos _ | exact SqL.of (by assumption) | exact SqT.of (by assumption) | exact TyX.base (TyOf.int _) | exact TyX.base (TyOf.bl _) | exact TyX.base TyOf.non | exact scal_opt _ _ | exact k_ii | exact k_bi | exact k_ni | exact k_ib | exact k_bb | exact TyX.base (TyOf.lst (by assumption)) | exact k_ll | exact k_lt)
local macro_rules | `(tactic| walk_at "p") => `(tactic| repeat (first | refine And.intro (by walk_at "side") ?_ | apply Exists.intro | refine iteN (by assumption) ?_ | refine iteP (by assumption) ?_ | refine iteN (by decide) ?_ | refine iteP (by decide) ?_))

section
variable {P : Program} {w : World} {K : PySem.W.Frag} {mg : Str → Option Value} {base : Heap}
def sp_op_word (_ : Txt K mg) : Sp := fun vs H Q _ => ∃ (o : Op) (x y : Int) (n : Nat), vs = [.str o.s, .int x, .int y, .int n] ∧ n ≤ 12 ∧ Q (.int (opI n o x y)) H
theorem sp_op_word_len {T : Txt K mg} {vs H Q E} (h : sp_op_word T vs H Q E) : vs.length = 4 := by obtain ⟨_, _, _, _, rfl, _⟩ := h; rfl
theorem if_lt {Q : V → Hp → Prop} {H : Hp} {x y : Int} (k : Q (V.int (if x < y then 1 else 0)) H) : if decide (x < y) = true then Q (V.int 1) H else Q (V.int 0) H := by
  by_cases c : x < y
  · rw [if_pos c] at k; rw [if_pos (decide_eq_true c)]; exact k
  · rw [if_neg c] at k; rw [if_neg (fun z => c (of_decide_eq_true z))]; exact k
theorem if_eq {Q : V → Hp → Prop} {H : Hp} {x y : Int} (k : Q (V.int (if x = y then 1 else 0)) H) : if decide (V.int x = V.int y) = true then Q (V.int 1) H else Q (V.int 0) H := by
  by_cases c : x = y
  · rw [if_pos c] at k; rw [if_pos (decide_eq_true (congrArg V.int c))]; exact k
  · rw [if_neg c] at k; rw [if_neg (fun z => c (by have := of_decide_eq_true z; injection this))]; exact k
theorem ok_op_word (T : Txt K mg) : FnOk P w K mg base CX0 1 T.f_op_word T.fd_op_word ["name", "one", "other", "width"] (sp_op_word T) := by
  skip
  refine T.F_op_word.ok sc_op_word (fun vs H Q E h => sp_op_word_len h) (fun cdv A outer s H vs Q E hr h => ?_)
  obtain ⟨o, x, y, n, rfl, hn, k⟩ := h
  refine ⟨_, (pss_cons (ps_if (pt_cmpR op_eq (pv 0) pe_str (nomark _))
        (pss_one (ps_ret (pe_op op_and (pe_op op_add (pv 1) (pv 2)) (pe_op op_sub (pe_op op_shl pe_int (pv 3)) pe_int))))
        pss_nil)
       (pss_cons (ps_if (pt_cmpR op_eq (pv 0) pe_str (nomark _))
        (pss_one (ps_ret (pe_op op_and (pe_op op_sub (pv 1) (pv 2)) (pe_op op_sub (pe_op op_shl pe_int (pv 3)) pe_int))))
        pss_nil)
       (pss_cons (ps_if (pt_cmpR op_eq (pv 0) pe_str (nomark _))
        (pss_one (ps_ret (pe_op op_and (pv 1) (pv 2))))
        pss_nil)
       (pss_cons (ps_if (pt_cmpR op_eq (pv 0) pe_str (nomark _))
        (pss_one (ps_ret (pe_op op_or (pv 1) (pv 2))))
        pss_nil)
       (pss_cons (ps_if (pt_cmpR op_eq (pv 0) pe_str (nomark _))
        (pss_one (ps_ret (pe_op op_xor (pv 1) (pv 2))))
        pss_nil)
       (pss_cons (ps_if (pt_cmpR op_eq (pv 0) pe_str (nomark _))
        (pss_one (ps_ret (pe_ifExp (pt_cmpR op_lt (pv 1) (pv 2) (nomark _)) pe_int pe_int)))
        pss_nil)
       (pss_one (ps_ret (pe_ifExp (pt_cmpR op_eq (pv 1) (pv 2) (nomark _)) pe_int pe_int))))))))), ?_⟩
  cases o
  · walk_at "p"
    show Q (V.int (Builtin.bitAnd (x + y) _)) H
    rw [mask_eq]; exact k
  · walk_at "p"
    show Q (V.int (Builtin.bitAnd (x - y) _)) H
    rw [mask_eq]; exact k
  · walk_at "p"
    exact k
  · walk_at "p"
    exact k
  · walk_at "p"
    exact k
  · walk_at "p"
    exact if_lt k
  · walk_at "p"
    exact if_eq k
def sp_law_op (_ : Txt K mg) : Sp := fun vs H Q _ => ∃ (o : Op) (x y : Int) (n : Nat), vs = [.str o.s, .int x, .int y, .int n] ∧ n ≤ 12 ∧ Q (.int (opI n o x y)) H
theorem sp_law_op_len {T : Txt K mg} {vs H Q E} (h : sp_law_op T vs H Q E) : vs.length = 4 := by obtain ⟨_, _, _, _, rfl, _⟩ := h; rfl
theorem ok_law_op (T : Txt K mg) : FnOk P w K mg base CX0 1 T.f_law_op T.fd_law_op ["_law_name", "_law_one", "_law_other", "_law_width"] (sp_law_op T) := by
  skip
  refine T.F_law_op.ok sc_law_op (fun vs H Q E h => sp_law_op_len h) (fun cdv A outer s H vs Q E hr h => ?_)
  obtain ⟨o, x, y, n, rfl, hn, k⟩ := h
  refine ⟨_, (pss_cons (ps_if (pt_cmpR op_eq (pv 0) pe_str (nomark _))
        (pss_one (ps_ret (pe_op op_mod (pe_callTy call_intI (by rfl) T.n_int (by decide +kernel) (pa_cons (pe_op op_add (pv 1) (pv 2)) pa_nil)) (pe_op op_shl pe_int (pv 3)))))
        pss_nil)
       (pss_cons (ps_if (pt_cmpR op_eq (pv 0) pe_str (nomark _))
        (pss_one (ps_ret (pe_op op_mod (pe_callTy call_intI (by rfl) T.n_int (by decide +kernel) (pa_cons (pe_op op_sub (pv 1) (pv 2)) pa_nil)) (pe_op op_shl pe_int (pv 3)))))
        pss_nil)
       (pss_cons (ps_if (pt_cmpR op_eq (pv 0) pe_str (nomark _))
        (pss_one (ps_ret (pe_op op_and (pv 1) (pv 2))))
        pss_nil)
       (pss_cons (ps_if (pt_cmpR op_eq (pv 0) pe_str (nomark _))
        (pss_one (ps_ret (pe_op op_or (pv 1) (pv 2))))
        pss_nil)
       (pss_cons (ps_if (pt_cmpR op_eq (pv 0) pe_str (nomark _))
        (pss_one (ps_ret (pe_op op_xor (pv 1) (pv 2))))
        pss_nil)
       (pss_cons (ps_if (pt_cmpR op_eq (pv 0) pe_str (nomark _))
        (pss_one (ps_ret (pe_ifExp (pt_cmpR op_lt (pv 1) (pv 2) (nomark _)) pe_int pe_int)))
        pss_nil)
       (pss_one (ps_ret (pe_ifExp (pt_cmpR op_eq (pv 1) (pv 2) (nomark _)) pe_int pe_int))))))))), ?_⟩
  cases o
  · walk_at "p"
    have k' : Q (V.int ((x + y) % (1 * 2 ^ (n : Int).toNat))) H := by rw [Int.one_mul, Int.toNat_natCast]; exact k
    exact k'
  · walk_at "p"
    have k' : Q (V.int ((x - y) % (1 * 2 ^ (n : Int).toNat))) H := by rw [Int.one_mul, Int.toNat_natCast]; exact k
    exact k'
  · walk_at "p"
    exact k
  · walk_at "p"
    exact k
  · walk_at "p"
    exact k
  · walk_at "p"
    exact if_lt k
  · walk_at "p"
    exact if_eq k
/-- is_int of what is no text, no object -/
def isI : V → Bool | .int _ => true | _ => false
def plainV : V → Bool | .int _ => true | .bl _ => true | .non => true | _ => false
def sp_is_int (_ : Txt K mg) : Sp := fun vs H Q _ => ∃ x, vs = [x] ∧ plainV x = true ∧ Q (.bl (isI x)) H
theorem sp_is_int_len {T : Txt K mg} {vs H Q E} (h : sp_is_int T vs H Q E) : vs.length = 1 := by obtain ⟨_, rfl, _⟩ := h; rfl
theorem ok_is_int (T : Txt K mg) : FnOk P w K mg base CX0 1 T.f_is_int T.fd_is_int ["value"] (sp_is_int T) := by
  skip
  refine T.F_is_int.ok sc_is_int (fun vs H Q E h => sp_is_int_len h) (fun cdv A outer s H vs Q E hr h => ?_)
  obtain ⟨x, rfl, hp, k⟩ := h
  refine ⟨_, (pss_one (ps_ret (pe_and (pe_callB call_isTy (by rfl) T.n_isinstance (by decide +kernel) (pa_cons (pv 0) (pa_cons (pe_bltn (v := .ty "int") (by rfl) T.n_int (by decide +kernel) rfl) pa_nil))) (pe_one (pe_not (pe_callB call_isTy (by rfl) T.n_isinstance (by decide +kernel) (pa_cons (pv 0) (pa_cons (pe_bltn (v := .ty "bool") (by rfl) T.n_bool (by decide +kernel) rfl) pa_nil)))))))), ?_⟩
  cases x <;> (try cases hp)
  · walk_at "p"
    exact k
  · walk_at "p"
    exact k
  · walk_at "p"
    exact k
def sp_law_is_int (_ : Txt K mg) : Sp := fun vs H Q _ => ∃ x, vs = [x] ∧ plainV x = true ∧ Q (.bl (isI x)) H
theorem sp_law_is_int_len {T : Txt K mg} {vs H Q E} (h : sp_law_is_int T vs H Q E) : vs.length = 1 := by obtain ⟨_, rfl, _⟩ := h; rfl
theorem ok_law_is_int (T : Txt K mg) : FnOk P w K mg base CX0 1 T.f_law_is_int T.fd_law_is_int ["_law_thing"] (sp_law_is_int T) := by
  skip
  refine T.F_law_is_int.ok sc_law_is_int (fun vs H Q E h => sp_law_is_int_len h) (fun cdv A outer s H vs Q E hr h => ?_)
  obtain ⟨x, rfl, hp, k⟩ := h
  refine ⟨_, (pss_one (ps_ret (pe_and (pe_callB call_isTy (by rfl) T.n_isinstance (by decide +kernel) (pa_cons (pv 0) (pa_cons (pe_bltn (v := .ty "int") (by rfl) T.n_int (by decide +kernel) rfl) pa_nil))) (pe_one (pe_not (pe_callB call_isTy (by rfl) T.n_isinstance (by decide +kernel) (pa_cons (pv 0) (pa_cons (pe_bltn (v := .ty "bool") (by rfl) T.n_bool (by decide +kernel) rfl) pa_nil)))))))), ?_⟩
  cases x <;> (try cases hp)
  · walk_at "p"
    exact k
  · walk_at "p"
    exact k
  · walk_at "p"
    exact k
/-- is_row of a list that is tracked -/
def sp_is_row (_ : Txt K mg) : Sp := fun vs H Q _ => ∃ a xs, vs = [.ref a] ∧ H a = some (.lst xs) ∧ ∀ H', Same H H' → Q (.bl true) H'
theorem sp_is_row_len {T : Txt K mg} {vs H Q E} (h : sp_is_row T vs H Q E) : vs.length = 1 := by obtain ⟨_, _, rfl, _⟩ := h; rfl
theorem ok_is_row (T : Txt K mg) : FnOk P w K mg base CX0 1 T.f_is_row T.fd_is_row ["value"] (sp_is_row T) := by
  skip
  refine T.F_is_row.ok sc_is_row (fun vs H Q E h => sp_is_row_len h) (fun cdv A outer s H vs Q E hr h => ?_)
  obtain ⟨a, xs, rfl, ha, k⟩ := h
  refine ⟨_, (pss_one (ps_ret (pe_callB call_isTy2 (by rfl) T.n_isinstance (by decide +kernel) (pa_cons (pv 0) (pa_cons (pe_tup (pa_cons (pe_bltn (v := .ty "list") (by rfl) T.n_list (by decide +kernel) rfl) (pa_cons (pe_bltn (v := .ty "tuple") (by rfl) T.n_tuple (by decide +kernel) rfl) pa_nil))) pa_nil))))), ?_⟩
  walk_at "p"
  intro p hp
  have ha2 : upd H p (.tup [.ty "list", .ty "tuple"]) a = some (.lst xs) := by rw [upd_ne (ne_of_none ha hp)]; exact ha
  refine ⟨_, _, _, _, _, rfl, upd_same, .base (.lst ha2), _, _, k_ll, k_lt, ?_⟩
  exact k _ fun b o e => by rw [upd_ne (ne_of_none e hp)]; exact e
/-- check_int, the bounds kept -/
def sp_check_int (_ : Txt K mg) : Sp := fun vs H Q _ => ∃ (v lo hi : Int) (n : V), vs = [.int v, .int lo, .int hi, n] ∧ lo ≤ v ∧ v ≤ hi ∧ Q (.int v) H
theorem sp_check_int_len {T : Txt K mg} {vs H Q E} (h : sp_check_int T vs H Q E) : vs.length = 4 := by obtain ⟨_, _, _, _, rfl, _⟩ := h; rfl
theorem ok_check_int (T : Txt K mg) : FnOk P w K mg base CX0 2 T.f_check_int T.fd_check_int ["value", "low", "high", "name"] (sp_check_int T) := by
  have G_is_int := ok_is_int (P := P) (w := w) (base := base) T
  refine T.F_check_int.ok sc_check_int (fun vs H Q E h => sp_check_int_len h) (fun cdv A outer s H vs Q E hr h => ?_)
  obtain ⟨v, lo, hi, n, rfl, h1, h2, k⟩ := h
  refine ⟨_, (pss_cons (ps_if (PW.pt (pw_or (pt_not (pt_val (pe_call G_is_int hr rfl T.g_is_int T.F_is_int.kp T.b_is_int .nil pass0 (pa_cons (pv 0) pa_nil)))) (pw_or1 (pt_cmpR op_lt (pv 0) (pv 1) (nomark _)))))
        (pss_one ps_never)
        pss_nil)
       (pss_cons (ps_if (PW.pt (pw_and (pt_cmpR op_notN (pv 2) pe_non (nomark _)) (pw_and1 (pt_cmpR op_gt (pv 0) (pv 2) (nomark _)))))
        (pss_one ps_never)
        pss_nil)
       (pss_one (ps_ret (pv 0))))), ?_⟩
  have e1 : ¬ decide (v < lo) = true := fun z => absurd (of_decide_eq_true z) (by omega)
  have e2 : ¬ decide (hi < v) = true := fun z => absurd (of_decide_eq_true z) (by omega)
  walk_at "p"
  exact k
def sp_ones (_ : Txt K mg) : Sp := fun vs H Q _ => ∃ (n : Nat), vs = [.int n] ∧ n ≤ 12 ∧ Q (.int (2 ^ n - 1)) H
theorem sp_ones_len {T : Txt K mg} {vs H Q E} (h : sp_ones T vs H Q E) : vs.length = 1 := by obtain ⟨_, rfl, _⟩ := h; rfl
theorem ok_ones (T : Txt K mg) : FnOk P w K mg base CX0 3 T.f_ones T.fd_ones ["width"] (sp_ones T) := by
  have G_check_int := ok_check_int (P := P) (w := w) (base := base) T
  refine T.F_ones.ok sc_ones (fun vs H Q E h => sp_ones_len h) (fun cdv A outer s H vs Q E hr h => ?_)
  obtain ⟨n, rfl, hn, k⟩ := h
  refine ⟨_, (pss_cons (ps_expr (pe_call G_check_int hr rfl T.g_check_int T.F_check_int.kp T.b_check_int .nil pass0 (pa_cons (pv 0) (pa_cons pe_int (pa_cons pe_int (pa_cons pe_str pa_nil))))))
       (pss_one (ps_ret (pe_op op_sub (pe_op op_shl pe_int (pv 0)) pe_int)))), ?_⟩
  walk_at "p"
  have k' : Q (V.int (1 * 2 ^ (n : Int).toNat - 1)) H := by rw [Int.one_mul, Int.toNat_natCast]; exact k
  exact k'
end
end My

/-! C -/
namespace My
open PySem L2
local macro_rules | `(tactic| walk_at "side") => `(tactic| first | with_reducible rfl | assumption | rfl | decide | omega | exact cpow1 (by omega) (by omega) | exact cdiv (by omega) (by omega) | exact two_pos _ | exact SqL.of (by assumption) | exact SqT.of (by assumption) | exact TyX.base (TyOf.int _) | exact TyX.base (TyOf.bl _) | exact TyX.base TyOf.non | exact scal_opt _ _ | exact k_ii | exact k_bi | exact k_ni | exact k_ib | exact k_bb | exact TyX.base (TyOf.lst (by assumption)) | exact k_ll | exact k_lt)
local macro_rules | `(tactic| walk_at "p") => `(tactic| repeat (first | refine And.intro (by walk_at "side") ?_ | apply Exists.intro | refine iteN (by assumption) ?_ | refine iteP (by assumption) ?_ | refine iteN (by decide) ?_ | refine iteP (by decide) ?_))

section
variable {P : Program} {w : World} {K : PySem.W.Frag} {mg : Str → Option Value} {base : Heap}
def sp_shortened_twice (_ : Txt K mg) : Sp := fun vs H Q _ => ∃ (o : Op), vs = [.str o.s] ∧ ∀ H', Same H H' → Q (shTwice o).v H'
theorem sp_shortened_twice_len {T : Txt K mg} {vs H Q E} (h : sp_shortened_twice T vs H Q E) : vs.length = 1 := by obtain ⟨_, rfl, _⟩ := h; rfl
theorem same_new {H : Hp} {p : Addr} {o : HO} (hp : H p = none) : Same H (upd H p o) := fun b u e => by rw [upd_ne (ne_of_none e hp)]; exact e
theorem ok_shortened_twice (T : Txt K mg) : FnOk P w K mg base CX0 1 T.f_shortened_twice T.fd_shortened_twice ["name"] (sp_shortened_twice T) := by
  skip
  refine T.F_shortened_twice.ok sc_shortened_twice (fun vs H Q E h => sp_shortened_twice_len h) (fun cdv A outer s H vs Q E hr h => ?_)
  obtain ⟨o, rfl, k⟩ := h
  refine ⟨_, (pss_cons (ps_if (pt_cmpR op_in_seq (pv 0) (pe_tup (pa_cons pe_str (pa_cons pe_str (pa_cons pe_str pa_nil)))) (by rfl))
        (pss_one (ps_ret pe_str))
        pss_nil)
       (pss_cons (ps_if (pt_cmpR op_eq (pv 0) pe_str (nomark _))
        (pss_one (ps_ret pe_str))
        pss_nil)
       (pss_cons (ps_if (pt_cmpR op_eq (pv 0) pe_str (nomark _))
        (pss_one (ps_ret pe_str))
        pss_nil)
       (pss_one (ps_ret pe_non))))), ?_⟩
  walk_at "p"
  intro p hp
  refine ⟨p, _, rfl, Or.inr (SqT.of upd_same), rfl, rfl, _, rfl, ?_⟩
  have s1 := same_new (o := .tup [.str "sub", .str "xor", .str "less"]) hp
  cases o
  · refine iteN (by decide) ?_
    walk_at "p"
    exact k _ s1
  · refine iteP (by decide) ?_
    exact k _ s1
  · refine iteN (by decide) ?_
    walk_at "p"
    exact k _ s1
  · refine iteN (by decide) ?_
    walk_at "p"
    exact k _ s1
  · refine iteP (by decide) ?_
    exact k _ s1
  · refine iteP (by decide) ?_
    exact k _ s1
  · refine iteN (by decide) ?_
    walk_at "p"
    exact k _ s1
def sp_shortened_and (_ : Txt K mg) : Sp := fun vs H Q _ => ∃ (fa fb : Option Int) (eq : Bool) (most : Int), vs = [optV fa, optV fb, .bl eq, .int most] ∧ Q (shAnd fa fb eq most).v H
theorem sp_shortened_and_len {T : Txt K mg} {vs H Q E} (h : sp_shortened_and T vs H Q E) : vs.length = 4 := by obtain ⟨_, _, _, _, rfl, _⟩ := h; rfl
theorem ok_shortened_and (T : Txt K mg) : FnOk P w K mg base CX0 1 T.f_shortened_and T.fd_shortened_and ["first", "second", "equal", "most"] (sp_shortened_and T) := by
  skip
  refine T.F_shortened_and.ok sc_shortened_and (fun vs H Q E h => sp_shortened_and_len h) (fun cdv A outer s H vs Q E hr h => ?_)
  obtain ⟨fa, fb, eq, most, rfl, k⟩ := h
  refine ⟨_, (pss_cons (ps_if (PW.pt (pw_or (pt_cmpR op_eq (pv 0) pe_int (nomark _)) (pw_or1 (pt_cmpR op_eq (pv 1) pe_int (nomark _)))))
        (pss_one (ps_ret pe_str))
        pss_nil)
       (pss_cons (ps_if (pt_cmpR op_eq (pv 0) (pv 3) (nomark _))
        (pss_one (ps_ret pe_str))
        pss_nil)
       (pss_cons (ps_if (PW.pt (pw_or (pt_cmpR op_eq (pv 1) (pv 3) (nomark _)) (pw_or1 (pt_val (pv 2)))))
        (pss_one (ps_ret pe_str))
        pss_nil)
       (pss_one (ps_ret pe_non))))), ?_⟩
  have fin : ∀ r : Sh, shAnd fa fb eq most = r → Q r.v H := fun r e => by rw [← e]; exact k
  unfold shAnd at fin
  by_cases h1 : decide (optV fa = V.int 0) = true
  · have e1 := h1; rw [dec_opt, decide_eq_true_eq] at e1
    walk_at "p"; exact fin .zero (if_pos (.inl e1))
  by_cases h2 : decide (optV fb = V.int 0) = true
  · have e1 := h2; rw [dec_opt, decide_eq_true_eq] at e1
    walk_at "p"; exact fin .zero (if_pos (.inr e1))
  have e1 := h1; have e2 := h2
  rw [dec_opt, decide_eq_true_eq] at e1 e2
  rw [if_neg (by rintro (z | z); exact e1 z; exact e2 z)] at fin
  by_cases h3 : decide (optV fa = V.int most) = true
  · have e1 := h3; rw [dec_opt, decide_eq_true_eq] at e1
    walk_at "p"; exact fin .other (if_pos e1)
  have e3 := h3
  rw [dec_opt, decide_eq_true_eq] at e3
  rw [if_neg e3] at fin
  by_cases h4 : decide (optV fb = V.int most) = true
  · have e1 := h4; rw [dec_opt, decide_eq_true_eq] at e1
    walk_at "p"; exact fin .one (if_pos (.inl e1))
  have e4 := h4
  rw [dec_opt, decide_eq_true_eq] at e4
  by_cases h5 : eq = true
  · walk_at "p"; exact fin .one (if_pos (.inr h5))
  · walk_at "p"; exact fin .no (if_neg (by rintro (z | z); exact e4 z; exact h5 z))
def sp_shortened (_ : Txt K mg) : Sp := fun vs H Q _ => ∃ (o : Op) (fa fb : Option Int) (eq : Bool) (most : Int), vs = [.str o.s, optV fa, optV fb, .bl eq, .int most] ∧ ∀ H', Same H H' → Q (shortR o fa fb eq most).v H'
theorem sp_shortened_len {T : Txt K mg} {vs H Q E} (h : sp_shortened T vs H Q E) : vs.length = 5 := by obtain ⟨_, _, _, _, _, rfl, _⟩ := h; rfl
theorem ok_shortened (T : Txt K mg) : FnOk P w K mg base CX0 2 T.f_shortened T.fd_shortened ["name", "first", "second", "equal", "most"] (sp_shortened T) := by
  have G_shortened_and := ok_shortened_and (P := P) (w := w) (base := base) T; have G_shortened_twice := ok_shortened_twice (P := P) (w := w) (base := base) T
  refine T.F_shortened.ok sc_shortened (fun vs H Q E h => sp_shortened_len h) (fun cdv A outer s H vs Q E hr h => ?_)
  obtain ⟨o, fa, fb, eq, most, rfl, k⟩ := h
  refine ⟨_, (pss_cons (ps_if (pt_cmpR op_in_seq (pv 0) (pe_tup (pa_cons pe_str (pa_cons pe_str (pa_cons pe_str pa_nil)))) (by rfl))
        (pss_cons (ps_if (pt_cmpR op_eq (pv 1) pe_int (nomark _))
        (pss_one (ps_ret pe_str))
        pss_nil)
       (pss_one (ps_if (pt_cmpR op_eq (pv 2) pe_int (nomark _))
        (pss_one (ps_ret pe_str))
        pss_nil)))
        pss_nil)
       (pss_cons (ps_if (pt_cmpR op_eq (pv 0) pe_str (nomark _))
        (pss_one (ps_ret (pe_call G_shortened_and hr rfl T.g_shortened_and T.F_shortened_and.kp T.b_shortened_and .nil pass0 (pa_cons (pv 1) (pa_cons (pv 2) (pa_cons (pv 3) (pa_cons (pv 4) pa_nil)))))))
        pss_nil)
       (pss_cons (ps_if (PW.pt (pw_and (pt_cmpR op_eq (pv 2) pe_int (nomark _)) (pw_and1 (pt_cmpR op_eq (pv 0) pe_str (nomark _)))))
        (pss_one (ps_ret pe_str))
        pss_nil)
       (pss_cons (ps_if (PW.pt (pw_and (pt_cmpR op_eq (pv 2) pe_int (nomark _)) (pw_and1 (pt_cmpR op_eq (pv 0) pe_str (nomark _)))))
        (pss_one (ps_ret pe_str))
        pss_nil)
       (pss_cons (ps_if (pt_val (pv 3))
        (pss_one (ps_ret (pe_call G_shortened_twice hr rfl T.g_shortened_twice T.F_shortened_twice.kp T.b_shortened_twice .nil pass0 (pa_cons (pv 0) pa_nil))))
        pss_nil)
       (pss_one (ps_ret pe_non))))))), ?_⟩
  walk_at "p"
  intro p hp
  have s1 := same_new (o := .tup [.str "add", .str "or", .str "xor"]) hp
  refine ⟨p, _, rfl, Or.inr (SqT.of upd_same), rfl, rfl, _, rfl, ?_⟩
  have fin : ∀ (r : Sh) H', Same (upd H p (.tup [.str "add", .str "or", .str "xor"])) H' → shortR o fa fb eq most = r → Q r.v H' := fun r H' hs e => by rw [← e]; exact k H' (s1.trans hs)
  clear k
  have rf := Same.refl (upd H p (.tup [.str "add", .str "or", .str "xor"]))
  have q1 : ¬ decide (optV fa = V.int 0) = true → ¬ fa = some 0 := fun z => by rw [dec_opt, decide_eq_true_eq] at z; exact z
  have q2 : ¬ decide (optV fb = V.int 0) = true → ¬ fb = some 0 := fun z => by rw [dec_opt, decide_eq_true_eq] at z; exact z
  have q3 : decide (optV fa = V.int 0) = true → fa = some 0 := fun z => by rw [dec_opt, decide_eq_true_eq] at z; exact z
  have q4 : decide (optV fb = V.int 0) = true → fb = some 0 := fun z => by rw [dec_opt, decide_eq_true_eq] at z; exact z
  by_cases h1 : decide (optV fa = V.int 0) = true
  · have e1 := q3 h1
    by_cases h2 : decide (optV fb = V.int 0) = true
    · have e2 := q4 h2
      by_cases h5 : eq = true
      · cases o <;> walk_at "p"
        · exact fin .other _ rf (by simp [shortR, e1])
        · exact fin .one _ rf (by simp [shortR, e2])
        · exact fin _ _ rf (by simp [shortR])
        · exact fin .other _ rf (by simp [shortR, e1])
        · exact fin .other _ rf (by simp [shortR, e1])
        · exact fin .zero _ rf (by simp [shortR, e2])
        · exact fun H' hs => fin _ _ hs (by simp [shortR, h5])
      · cases o <;> walk_at "p"
        · exact fin .other _ rf (by simp [shortR, e1])
        · exact fin .one _ rf (by simp [shortR, e2])
        · exact fin _ _ rf (by simp [shortR])
        · exact fin .other _ rf (by simp [shortR, e1])
        · exact fin .other _ rf (by simp [shortR, e1])
        · exact fin .zero _ rf (by simp [shortR, e2])
        · exact fin .no _ rf (by simp [shortR, h5])
    · have e2 := q2 h2
      by_cases h5 : eq = true
      · cases o <;> walk_at "p"
        · exact fin .other _ rf (by simp [shortR, e1])
        · exact fun H' hs => fin _ _ hs (by simp [shortR, e2, h5])
        · exact fin _ _ rf (by simp [shortR])
        · exact fin .other _ rf (by simp [shortR, e1])
        · exact fin .other _ rf (by simp [shortR, e1])
        · exact fun H' hs => fin _ _ hs (by simp [shortR, e2, h5])
        · exact fun H' hs => fin _ _ hs (by simp [shortR, e2, h5])
      · cases o <;> walk_at "p"
        · exact fin .other _ rf (by simp [shortR, e1])
        · exact fin .no _ rf (by simp [shortR, e2, h5])
        · exact fin _ _ rf (by simp [shortR])
        · exact fin .other _ rf (by simp [shortR, e1])
        · exact fin .other _ rf (by simp [shortR, e1])
        · exact fin .no _ rf (by simp [shortR, e2, h5])
        · exact fin .no _ rf (by simp [shortR, e2, h5])
  · have e1 := q1 h1
    by_cases h2 : decide (optV fb = V.int 0) = true
    · have e2 := q4 h2
      by_cases h5 : eq = true
      · cases o <;> walk_at "p"
        · exact fin .one _ rf (by simp [shortR, e1, e2])
        · exact fin .one _ rf (by simp [shortR, e2])
        · exact fin _ _ rf (by simp [shortR])
        · exact fin .one _ rf (by simp [shortR, e1, e2])
        · exact fin .one _ rf (by simp [shortR, e1, e2])
        · exact fin .zero _ rf (by simp [shortR, e2])
        · exact fun H' hs => fin _ _ hs (by simp [shortR, h5])
      · cases o <;> walk_at "p"
        · exact fin .one _ rf (by simp [shortR, e1, e2])
        · exact fin .one _ rf (by simp [shortR, e2])
        · exact fin _ _ rf (by simp [shortR])
        · exact fin .one _ rf (by simp [shortR, e1, e2])
        · exact fin .one _ rf (by simp [shortR, e1, e2])
        · exact fin .zero _ rf (by simp [shortR, e2])
        · exact fin .no _ rf (by simp [shortR, h5])
    · have e2 := q2 h2
      by_cases h5 : eq = true
      · cases o <;> walk_at "p"
        · exact fun H' hs => fin _ _ hs (by simp [shortR, e1, e2, h5])
        · exact fun H' hs => fin _ _ hs (by simp [shortR, e2, h5])
        · exact fin _ _ rf (by simp [shortR])
        · exact fun H' hs => fin _ _ hs (by simp [shortR, e1, e2, h5])
        · exact fun H' hs => fin _ _ hs (by simp [shortR, e1, e2, h5])
        · exact fun H' hs => fin _ _ hs (by simp [shortR, e2, h5])
        · exact fun H' hs => fin _ _ hs (by simp [shortR, e2, h5])
      · cases o <;> walk_at "p"
        · exact fin .no _ rf (by simp [shortR, e1, e2, h5])
        · exact fin .no _ rf (by simp [shortR, e2, h5])
        · exact fin _ _ rf (by simp [shortR])
        · exact fin .no _ rf (by simp [shortR, e1, e2, h5])
        · exact fin .no _ rf (by simp [shortR, e1, e2, h5])
        · exact fin .no _ rf (by simp [shortR, e2, h5])
        · exact fin .no _ rf (by simp [shortR, e2, h5])
end
end My

/-! D -/
namespace My
open PySem L2
local macro_rules | `(tactic| walk_at "side") => `(tactic| first | with_reducible rfl | assumption | rfl | decide | omega | exact cpow1 (by omega) (by omega) | exact cdiv (by omega) (by omega) | exact two_pos _ | exact SqL.of (by assumption) | exact SqT.of (by assumption) | exact TyX.base (TyOf.int _) | exact TyX.base (TyOf.bl _) | exact TyX.base TyOf.non | exact scal_opt _ _ | exact k_ii | exact k_bi | exact k_ni | exact k_ib | exact k_bb | exact TyX.base (TyOf.lst (by assumption)) | exact k_ll | exact k_lt)
local macro_rules | `(tactic| walk_at "p") => `(tactic| repeat (first | refine And.intro (by walk_at "side") ?_ | apply Exists.intro | refine iteN (by assumption) ?_ | refine iteP (by assumption) ?_ | refine iteN (by decide) ?_ | refine iteP (by decide) ?_))

section
variable {P : Program} {w : World} {K : PySem.W.Frag} {mg : Str → Option Value} {base : Heap}
def sp_p_init (T : Txt K mg) : Sp := fun vs H Q _ => ∃ (p dx : Addr) (n : Nat), vs = [.ref p, .int n] ∧ H p = some (.ins T.C dx []) ∧ 1 ≤ n ∧ n ≤ 12 ∧
  ∀ (H' : Hp) (l d : Addr), H l = none → H d = none → l ≠ d → PoolAt T.C H' p l d n [] → (∀ b o, H b = some o → b ≠ p → H' b = some o) → Q .non H'
theorem sp_p_init_len {T : Txt K mg} {vs H Q E} (h : sp_p_init T vs H Q E) : vs.length = 2 := by obtain ⟨_, _, _, rfl, _⟩ := h; rfl
theorem ok_p_init (T : Txt K mg) : FnOk P w K mg base CX0 4 T.f_p_init T.fd_p_init ["self", "width"] (sp_p_init T) := by
  have G_check_int := ok_check_int (P := P) (w := w) (base := base) T; have G_ones := ok_ones (P := P) (w := w) (base := base) T
  refine T.F_p_init.ok sc_p_init (fun vs H Q E h => sp_p_init_len h) (fun cdv A outer s H vs Q E hr h => ?_)
  obtain ⟨p, dx, n, rfl, hp, n1, n2, k⟩ := h
  refine ⟨_, (pss_cons (ps_expr (pe_call G_check_int (hr.mono (by decide)) rfl T.g_check_int T.F_check_int.kp T.b_check_int .nil pass0 (pa_cons (pv 1) (pa_cons pe_int (pa_cons pe_int (pa_cons pe_str pa_nil))))))
       (pss_cons (ps_fld (pv 0) (pv 1) rfl)
       (pss_cons (ps_fld (pv 0) (pe_call G_ones hr rfl T.g_ones T.F_ones.kp T.b_ones .nil pass0 (pa_cons (pv 1) pa_nil)) rfl)
       (pss_cons (ps_fld (pv 0) (pe_lst pa_nil) rfl)
       (pss_one (ps_fld (pv 0) pe_dnewT rfl)))))), ?_⟩
  refine ⟨_, rfl, n, 1, 12, _, rfl, by omega, by omega, ?_⟩
  refine ⟨_, rfl, _, rfl, p, T.C, dx, [], rfl, hp, T.cl, T.nA_width, by decide, ?_⟩
  refine ⟨_, rfl, n, rfl, n2, ?_⟩
  refine ⟨_, rfl, p, T.C, dx, _, rfl, upd_same, T.cl, T.nA__most, by show 1 < 1000; decide, ?_⟩
  refine ⟨Nat.zero_le _, fun l hl => ?_⟩
  have pl : p ≠ l := fun e => by rw [e, upd_same] at hl; cases hl
  refine ⟨_, rfl, p, T.C, dx, _, rfl, (by rw [upd_ne pl]; exact upd_same), T.cl, T.nA__parts, (Nat.lt_of_le_of_lt (length_putF _ _ _) (by show 2 < 1000; decide)), ?_⟩
  intro d hd
  have pd : p ≠ d := fun e => by rw [e, upd_same] at hd; cases hd
  have ld : l ≠ d := fun e => by rw [e, upd_ne pd.symm, ← e, upd_same] at hd; cases hd
  have hl0 : H l = none := by rw [upd_ne pl.symm, upd_ne pl.symm] at hl; exact hl
  have hd0 : H d = none := by rw [upd_ne pd.symm, upd_ne ld.symm, upd_ne pd.symm, upd_ne pd.symm] at hd; exact hd
  refine ⟨_, rfl, p, T.C, dx, _, rfl, (by rw [upd_ne pd]; exact upd_same), T.cl, T.nA__numbers, (Nat.lt_of_le_of_lt (length_putF _ _ _) (Nat.lt_of_le_of_lt (Nat.succ_le_succ (length_putF _ _ _)) (by show 3 < 1000; decide))), ?_⟩
  refine k _ l d hl0 hd0 ld ⟨⟨dx, ?_⟩, ⟨[], ?_, rfl, fun i q e => by simp at e⟩, ?_⟩ fun b o e hb => ?_
  · have e := poolF_made n l d
    refine Eq.trans upd_same (congrArg (fun z => some (HO.ins T.C dx z)) e)
  · rw [upd_ne pl.symm, upd_ne ld, upd_ne pl.symm]; exact upd_same
  · rw [upd_ne pd.symm]; exact upd_same
  · rw [upd_ne hb, upd_ne (ne_of_none e hd0), upd_ne hb, upd_ne (ne_of_none e hl0), upd_ne hb, upd_ne hb]; exact e
def sp_p_len (T : Txt K mg) : Sp := fun vs H Q _ => ∃ (a l d : Addr) (n : Nat) (ps : List Part), vs = [.ref a] ∧ PoolAt T.C H a l d n ps ∧ Q (.int (ps.length : Nat)) H
theorem sp_p_len_len {T : Txt K mg} {vs H Q E} (h : sp_p_len T vs H Q E) : vs.length = 1 := by obtain ⟨_, _, _, _, _, rfl, _⟩ := h; rfl
theorem ok_p_len (T : Txt K mg) : FnOk P w K mg base CX0 1 T.f_p_len T.fd_p_len ["self"] (sp_p_len T) := by
  skip
  refine T.F_p_len.ok sc_p_len (fun vs H Q E h => sp_p_len_len h) (fun cdv A outer s H vs Q E hr h => ?_)
  obtain ⟨a, l, d, n, ps, rfl, ⟨⟨dx, ho⟩, hl, hd⟩, k⟩ := h
  obtain ⟨xs, hx, ex, _⟩ := hl.item
  refine ⟨_, (pss_one (ps_ret (pe_callB call_lenL (by rfl) T.n_len (by decide +kernel) (pa_cons (pe_fldA (pv 0)) pa_nil)))), ?_⟩
  refine ⟨_, rfl, a, T.C, dx, _, _, rfl, ho, T.cl, T.nA__parts, look_parts _ _ _, l, xs, rfl, SqL.of hx, ?_⟩
  rw [ex]
  exact k
def sp_p_iter (T : Txt K mg) : Sp := fun vs H Q _ => ∃ (a l d : Addr) (n : Nat) (ps : List Part), vs = [.ref a] ∧ PoolAt T.C H a l d n ps ∧ ∀ it, H it = none → Q (.ref it) (upd H it (ItO l it 0))
theorem sp_p_iter_len {T : Txt K mg} {vs H Q E} (h : sp_p_iter T vs H Q E) : vs.length = 1 := by obtain ⟨_, _, _, _, _, rfl, _⟩ := h; rfl
theorem ok_p_iter (T : Txt K mg) : FnOk P w K mg base CX0 1 T.f_p_iter T.fd_p_iter ["self"] (sp_p_iter T) := by
  skip
  refine T.F_p_iter.ok sc_p_iter (fun vs H Q E h => sp_p_iter_len h) (fun cdv A outer s H vs Q E hr h => ?_)
  obtain ⟨a, l, d, n, ps, rfl, ⟨⟨dx, ho⟩, hl, hd⟩, k⟩ := h
  obtain ⟨xs, hx, ex, _⟩ := hl.item
  refine ⟨_, (pss_one (ps_ret (pe_callB call_iterL (by rfl) T.n_iter (by decide +kernel) (pa_cons (pe_fldA (pv 0)) pa_nil)))), ?_⟩
  exact ⟨_, rfl, a, T.C, dx, _, _, rfl, ho, T.cl, T.nA__parts, look_parts _ _ _, l, xs, rfl, SqL.of hx, k⟩
def goodP (n : Nat) : V → Bool | .int i => decide (0 ≤ i ∧ i < n) | _ => false
def sp_p_check_part (T : Txt K mg) : Sp := fun vs H Q E => ∃ (a l d : Addr) (n : Nat) (ps : List Part) (x : V), vs = [.ref a, x] ∧ PoolAt T.C H a l d n ps ∧ plainV x = true ∧
  (goodP ps.length x = true → Q x H) ∧ (¬ goodP ps.length x = true → E (.ref T.C_BadPart) none H)
theorem sp_p_check_part_len {T : Txt K mg} {vs H Q E} (h : sp_p_check_part T vs H Q E) : vs.length = 2 := by obtain ⟨_, _, _, _, _, _, rfl, _⟩ := h; rfl
theorem ok_p_check_part (T : Txt K mg) : FnOk P w K mg base (L2.CX P w) 2 T.f_p_check_part T.fd_p_check_part ["self", "number"] (sp_p_check_part T) := by
  have G_is_int := ok_is_int (P := P) (w := w) (base := base) T
  refine T.F_p_check_part.okX sc_p_check_part (fun vs H Q E h => sp_p_check_part_len h) (fun cdv A outer s H vs Q E hr h => ?_)
  obtain ⟨a, l, d, n, ps, x, rfl, ⟨⟨dx, ho⟩, hl, hd⟩, hx, k1, k2⟩ := h
  obtain ⟨xs, hL, ex, _⟩ := hl.item
  refine ⟨_, (pss_cons (ps_if (PW.pt (pw_or (pt_not (pt_val (pe_call G_is_int hr rfl T.g_is_int T.F_is_int.kp T.b_is_int .nil pass0 (pa_cons (pv 1) pa_nil)))) (pw_or (pt_cmpR op_lt (pv 1) pe_int (nomark _)) (pw_or1 (pt_cmpR op_ge (pv 1) (pe_callB call_lenL (by rfl) T.n_len (by decide +kernel) (pa_cons (pe_fldA (pv 0)) pa_nil)) (nomark _))))))
        (pss_one (ps_raise rfl (takes_of rfl rfl rfl rfl) (pmk_0 PySem.F.excBase_Exception T.x_BadPart T.g_BadPart T.k_BadPart (raises_own T.sb_BadPart T.ty_BadPart) (by rfl))))
        pss_nil)
       (pss_one (ps_ret (pv 1)))), ?_⟩
  refine ⟨_, rfl, x, rfl, hx, _, rfl, ?_⟩
  cases x <;> (try cases hx)
  · refine iteP rfl (iteP rfl ?_)
    exact k2 (fun z => by cases z)
  · refine iteP rfl (iteP rfl ?_)
    exact k2 (fun z => by cases z)
  rename_i i
  refine iteN (fun z => by cases z) ?_
  refine ⟨_, rfl, _, _, rfl, rfl, _, rfl, ?_⟩
  by_cases h0 : i < 0
  · refine iteP (dT h0) (iteP rfl ?_)
    exact k2 (fun z => absurd (of_decide_eq_true z).1 (by omega))
  refine iteN (dF h0) ?_
  refine ⟨_, rfl, _, rfl, a, T.C, dx, _, _, rfl, ho, T.cl, T.nA__parts, look_parts _ _ _, l, xs, rfl, SqL.of hL, _, _, rfl, rfl, _, rfl, ?_⟩
  rw [ex]
  by_cases h1 : (ps.length : Int) ≤ i
  · refine iteP (dT h1) ?_
    exact k2 (fun z => absurd (of_decide_eq_true z).2 (by omega))
  refine iteN (dF h1) ?_
  refine ⟨_, rfl, ?_⟩
  exact k1 (decide_eq_true ⟨by omega, by omega⟩)
def sp_p_word (T : Txt K mg) : Sp := fun vs H Q _ => ∃ (a l d : Addr) (n : Nat) (ps : List Part) (i : Nat), vs = [.ref a, .int i] ∧ PoolAt T.C H a l d n ps ∧ i < ps.length ∧ Q (optV (wordOf ps i)) H
theorem sp_p_word_len {T : Txt K mg} {vs H Q E} (h : sp_p_word T vs H Q E) : vs.length = 2 := by obtain ⟨_, _, _, _, _, _, rfl, _⟩ := h; rfl
theorem op_ne_num (o : Op) : ¬ o.s = ("num" : Str) := by cases o <;> decide +kernel
theorem ok_p_word (T : Txt K mg) : FnOk P w K mg base CX0 1 T.f_p_word T.fd_p_word ["self", "number"] (sp_p_word T) := by
  skip
  refine T.F_p_word.ok sc_p_word (fun vs H Q E h => sp_p_word_len h) (fun cdv A outer s H vs Q E hr h => ?_)
  obtain ⟨a, l, d, n, ps, i, rfl, ⟨⟨dx, ho⟩, hl, hd⟩, hi, k⟩ := h
  obtain ⟨xs, hL, ex, hit⟩ := hl.item
  obtain ⟨p, hp⟩ : ∃ p, ps[i]? = some p := ⟨_, List.getElem?_eq_getElem hi⟩
  obtain ⟨t, ht, hT⟩ := hit i p hp
  rw [wordOf_at hp] at k
  refine ⟨_, (pss_cons (ps_set (i := 2) sc_p_word.nd rfl (Or.inl rfl) (pe_ix ix_list (pe_fldA (pv 0)) (pv 1) (fun _ _ => rfl)))
       (pss_one (ps_ret (pe_ifExp (pt_cmpR op_eq (pe_ix ix_tup (pv 2) pe_int (fun _ _ => rfl)) pe_str (nomark _)) (pe_ix ix_tup (pv 2) pe_int (fun _ _ => rfl)) pe_non)))), ?_⟩
  refine ⟨_, rfl, a, T.C, dx, _, _, rfl, ho, T.cl, T.nA__parts, look_parts _ _ _, _, rfl, l, xs, _, _, rfl, rfl, SqL.of hL, at_of rfl ht, ?_⟩
  cases p with
  | num v => exact ⟨_, rfl, t, _, 0, _, rfl, rfl, SqT.of hT, rfl, rfl, _, rfl, iteP (by decide) ⟨_, rfl, t, _, 1, _, rfl, rfl, SqT.of hT, rfl, k⟩⟩
  | get v => exact ⟨_, rfl, t, _, 0, _, rfl, rfl, SqT.of hT, rfl, rfl, _, rfl, iteN (by decide) k⟩
  | op o x y =>
    refine ⟨_, rfl, t, _, 0, _, rfl, rfl, SqT.of hT, rfl, rfl, _, rfl, iteN (fun z => op_ne_num o ?_) k⟩
    have z := of_decide_eq_true z
    injection z
theorem num_good (p : Part) (v : Int) : True := trivial
def sp_p_made (T : Txt K mg) : Sp := fun vs H Q _ => ∃ (a l d t : Addr) (n : Nat) (ps : List Part) (p : Part), vs = [.ref a, .ref t] ∧ PoolAt T.C H a l d n ps ∧ H t = some (.tup p.vals) ∧ ps.length < 3999 ∧
  ∀ H' : Hp, PoolAt T.C H' a l d n (mk ps p).2 → (∀ b o, H b = some o → b ≠ l → b ≠ d → H' b = some o) → Q (.int ((mk ps p).1 : Nat)) H'
theorem sp_p_made_len {T : Txt K mg} {vs H Q E} (h : sp_p_made T vs H Q E) : vs.length = 2 := by obtain ⟨_, _, _, _, _, _, _, rfl, _⟩ := h; rfl
theorem ok_p_made (T : Txt K mg) : FnOk P w K mg base CX0 1 T.f_p_made T.fd_p_made ["self", "part"] (sp_p_made T) := by
  skip
  refine T.F_p_made.ok sc_p_made (fun vs H Q E h => sp_p_made_len h) (fun cdv A outer s H vs Q E hr h => ?_)
  obtain ⟨a, l, d, t, n, ps, p, rfl, ⟨⟨dx, ho⟩, hl, hd⟩, ht, hn, k⟩ := h
  obtain ⟨xs, hL, ex, hit⟩ := hl.item
  have hk : H t = some (.tup (p.key.map kV)) := by rw [key_vals]; exact ht
  have ld : l ≠ d := ne_of hL hd (by intro z; cases z)
  have la : a ≠ l := ne_of ho hL (by intro z; cases z)
  have da : a ≠ d := ne_of ho hd (by intro z; cases z)
  have tl : t ≠ l := ne_of ht hL (by intro z; cases z)
  have td : t ≠ d := ne_of ht hd (by intro z; cases z)
  refine ⟨_, (pss_cons (ps_if (pt_cmp (pc_din (hu_of hr) (pv 1) (pe_fldA (pv 0))))
        (pss_one (ps_ret (pe_dget (hu_of hr) (pe_fldA (pv 0)) (pv 1) (fun _ _ => rfl))))
        pss_nil)
       (pss_cons (ps_if (pt_cmpR op_ge (pe_callB call_lenL (by rfl) T.n_len (by decide +kernel) (pa_cons (pe_fldA (pv 0)) pa_nil)) (pe_glob (v := .int 4000) rfl T.c_MOST_PARTS ⟨_, rfl⟩) (nomark _))
        (pss_one ps_never)
        pss_nil)
       (pss_cons (ps_dput (hu_of hr) (pe_fldA (pv 0)) (pv 1) (pe_callB call_lenL (by rfl) T.n_len (by decide +kernel) (pa_cons (pe_fldA (pv 0)) pa_nil)) rfl)
       (pss_cons (ps_expr (pe_bm PySem.F.plainAttrs_list PySem.F.slot_list_append PySem.F.type_list_append mt_append (pe_fldA (pv 0)) (pa_cons (pv 1) pa_nil)))
       (pss_one (ps_ret (pe_dget (hu_of hr) (pe_fldA (pv 0)) (pv 1) (fun _ _ => rfl)))))))), ?_⟩
  refine ⟨_, rfl, _, rfl, a, T.C, dx, _, _, rfl, ho, T.cl, T.nA__numbers, look_numbers _ _ _, d, _, rfl, DGet.t hd hk, ?_⟩
  unfold mk at k
  rw [valV_numd]
  by_cases hm : p ∈ ps
  · rw [if_pos hm] at k ⊢
    refine ⟨_, rfl, iteP rfl ?_⟩
    refine ⟨_, rfl, a, T.C, dx, _, _, rfl, ho, T.cl, T.nA__numbers, look_numbers _ _ _, _, rfl, d, _, rfl, (by have := DGet.t hd hk; rw [valV_numd, if_pos hm] at this; exact this), ?_⟩
    exact k H ⟨⟨dx, ho⟩, hl, hd⟩ fun b o e _ _ => e
  · rw [if_neg hm] at k ⊢
    refine ⟨_, rfl, iteN (by decide) ?_⟩
    refine ⟨_, rfl, a, T.C, dx, _, _, rfl, ho, T.cl, T.nA__parts, look_parts _ _ _, l, xs, rfl, SqL.of hL, _, _, rfl, rfl, _, rfl, iteN (fun z => absurd (of_decide_eq_true z) (by omega)) ?_⟩
    refine ⟨_, rfl, a, T.C, dx, _, _, rfl, ho, T.cl, T.nA__parts, look_parts _ _ _, l, xs, rfl, SqL.of hL, _, rfl, a, T.C, dx, _, _, rfl, ho, T.cl, T.nA__numbers, look_numbers _ _ _, _, rfl, d, _, rfl, DPut.t hd hk (by rw [numd_len, sizeLine_eq]; omega), ?_⟩
    rw [putK_new _ (by rw [valV_numd, if_neg hm]), ex, ← numd_snoc]
    -- self._parts.append(part)
    have ho2 : upd H d (.dT (numd (ps ++ [p]))) a = some (.ins T.C dx (poolF n l d)) := by rw [upd_ne da]; exact ho
    have hL2 : upd H d (.dT (numd (ps ++ [p]))) l = some (.lst xs) := by rw [upd_ne ld]; exact hL
    refine ⟨_, rfl, a, T.C, dx, _, _, rfl, ho2, T.cl, T.nA__parts, look_parts _ _ _, Or.inl ⟨rfl, _, SqL.of hL2⟩, _, rfl, l, xs, _, rfl, rfl, hL2, by rw [ex, sizeLine_eq]; omega, ?_⟩
    have ho3 : upd (upd H d (.dT (numd (ps ++ [p])))) l (.lst (xs ++ [.ref t])) a = some (.ins T.C dx (poolF n l d)) := by rw [upd_ne la]; exact ho2
    have hd3 : upd (upd H d (.dT (numd (ps ++ [p])))) l (.lst (xs ++ [.ref t])) d = some (.dT (numd (ps ++ [p]))) := by rw [upd_ne ld.symm]; exact upd_same
    have hk3 : upd (upd H d (.dT (numd (ps ++ [p])))) l (.lst (xs ++ [.ref t])) t = some (.tup (p.key.map kV)) := by rw [upd_ne tl, upd_ne td]; exact hk
    refine ⟨_, rfl, a, T.C, dx, _, _, rfl, ho3, T.cl, T.nA__numbers, look_numbers _ _ _, _, rfl, d, _, rfl, (by have := DGet.t hd3 hk3; rw [valV_numd, if_pos (by simp)] at this; exact this), ?_⟩
    have ei : (ps ++ [p]).idxOf p = ps.length := by rw [List.idxOf_append, if_neg hm]; simp
    rw [ei]
    refine k _ ⟨⟨dx, ho3⟩, hl.push hL (fun b ys e => ?_) upd_same (by rw [upd_ne tl, upd_ne td]; exact ht), hd3⟩ fun b o e h1 h2 => by rw [upd_ne h1, upd_ne h2]; exact e
    rw [upd_ne (ne_of e hL (by intro z; cases z)), upd_ne (ne_of e hd (by intro z; cases z))]; exact e
end
end My

/-! E -/
namespace My
open PySem L2
local macro_rules | `(tactic| walk_at "side") => `(tactic| first | with_reducible rfl | assumption | rfl | decide | omega | exact cpow1 (by omega) (by omega) | exact cdiv (by omega) (by omega) | exact two_pos _ | exact SqL.of (by assumption) | exact SqT.of (by assumption) | exact TyX.base (TyOf.int _) | exact TyX.base (TyOf.bl _) | exact TyX.base TyOf.non | exact scal_opt _ _ | exact k_ii | exact k_bi | exact k_ni | exact k_ib | exact k_bb | exact TyX.base (TyOf.lst (by assumption)) | exact k_ll | exact k_lt)
local macro_rules | `(tactic| walk_at "p") => `(tactic| repeat (first | refine And.intro (by walk_at "side") ?_ | apply Exists.intro | refine iteN (by assumption) ?_ | refine iteP (by assumption) ?_ | refine iteN (by decide) ?_ | refine iteP (by decide) ?_))

section
variable {P : Program} {w : World} {K : PySem.W.Frag} {mg : Str → Option Value} {base : Heap}
/-- what a call that makes parts leaves -/
def Made (C : Addr) (H : Hp) (a l d : Addr) (n : Nat) (r : Nat × List Part) (Q : VK) : Prop :=
  ∀ H' : Hp, PoolAt C H' a l d n r.2 → (∀ b o, H b = some o → b ≠ l → b ≠ d → H' b = some o) → Q (.int (r.1 : Nat)) H'
theorem PoolAt.news {C : Addr} {H : Hp} {a l d : Addr} {n : Nat} {ps : List Part} (h : PoolAt C H a l d n ps) {H' : Hp} (s : Same H H') : PoolAt C H' a l d n ps :=
  h.keep (S := fun _ => False) (fun b o e _ => s b o e) id id id fun _ _ _ => id
theorem Made.news {C : Addr} {H H' : Hp} {a l d : Addr} {n : Nat} {r : Nat × List Part} {Q : VK} (h : Made C H a l d n r Q) (s : Same H H') : Made C H' a l d n r Q :=
  fun H2 hp k => h H2 hp fun b o e h1 h2 => k b o (s b o e) h1 h2
def sp_p_num (T : Txt K mg) : Sp := fun vs H Q _ => ∃ (a l d : Addr) (n : Nat) (ps : List Part) (v : Int), vs = [.ref a, .int v] ∧ PoolAt T.C H a l d n ps ∧ ps.length < 3999 ∧ 0 ≤ v ∧ v ≤ 2 ^ n - 1 ∧ Made T.C H a l d n (mk ps (.num v)) Q
theorem sp_p_num_len {T : Txt K mg} {vs H Q E} (h : sp_p_num T vs H Q E) : vs.length = 2 := by obtain ⟨_, _, _, _, _, _, rfl, _⟩ := h; rfl
theorem ok_p_num (T : Txt K mg) : FnOk P w K mg base CX0 3 T.f_p_num T.fd_p_num ["self", "value"] (sp_p_num T) := by
  have G_p_made := ok_p_made (P := P) (w := w) (base := base) T; have G_check_int := ok_check_int (P := P) (w := w) (base := base) T
  refine T.F_p_num.ok sc_p_num (fun vs H Q E h => sp_p_num_len h) (fun cdv A outer s H vs Q E hr h => ?_)
  obtain ⟨a, l, d, n, ps, v, rfl, hp, hn, h0, h1, k⟩ := h
  obtain ⟨dx, ho⟩ := id hp.ob
  refine ⟨_, (pss_cons (ps_expr (pe_call G_check_int hr rfl T.g_check_int T.F_check_int.kp T.b_check_int .nil pass0 (pa_cons (pv 1) (pa_cons pe_int (pa_cons (pe_fldA (pv 0)) (pa_cons pe_str pa_nil))))))
       (pss_one (ps_ret (pe_meth (pv 0) T.cl T.m_p_made G_p_made (hr.mono (by decide)) T.b_p_made .nil pass0 (pa_cons (pe_tup (pa_cons pe_str (pa_cons (pv 1) pa_nil))) pa_nil))))), ?_⟩
  refine ⟨_, rfl, _, rfl, a, T.C, dx, _, _, rfl, ho, T.cl, T.nA__most, look_most _ _ _, v, 0, _, _, rfl, h0, h1, ?_⟩
  refine ⟨_, rfl, a, dx, _, rfl, ho, look_no _ _ _ (by decide +kernel) (by decide +kernel) (by decide +kernel) (by decide +kernel), _, rfl, by show 2 ≤ sizeLine; decide, fun t ht => ?_⟩
  refine ⟨a, l, d, t, n, ps, .num v, rfl, hp.news (same_new ht), upd_same, hn, ?_⟩
  exact k.news (same_new ht)
def sp_p_unknown (T : Txt K mg) : Sp := fun vs H Q _ => ∃ (a l d : Addr) (n : Nat) (ps : List Part) (v : Int), vs = [.ref a, .int v] ∧ PoolAt T.C H a l d n ps ∧ ps.length < 3999 ∧ 0 ≤ v ∧ v ≤ 63 ∧ Made T.C H a l d n (mk ps (.get v)) Q
theorem sp_p_unknown_len {T : Txt K mg} {vs H Q E} (h : sp_p_unknown T vs H Q E) : vs.length = 2 := by obtain ⟨_, _, _, _, _, _, rfl, _⟩ := h; rfl
theorem ok_p_unknown (T : Txt K mg) : FnOk P w K mg base CX0 3 T.f_p_unknown T.fd_p_unknown ["self", "number"] (sp_p_unknown T) := by
  have G_p_made := ok_p_made (P := P) (w := w) (base := base) T; have G_check_int := ok_check_int (P := P) (w := w) (base := base) T
  refine T.F_p_unknown.ok sc_p_unknown (fun vs H Q E h => sp_p_unknown_len h) (fun cdv A outer s H vs Q E hr h => ?_)
  obtain ⟨a, l, d, n, ps, v, rfl, hp, hn, h0, h1, k⟩ := h
  obtain ⟨dx, ho⟩ := id hp.ob
  refine ⟨_, (pss_cons (ps_expr (pe_call G_check_int hr rfl T.g_check_int T.F_check_int.kp T.b_check_int .nil pass0 (pa_cons (pv 1) (pa_cons pe_int (pa_cons (pe_glob (v := .int 63) rfl T.c_LAST_UNKNOWN ⟨_, rfl⟩) (pa_cons pe_str pa_nil))))))
       (pss_one (ps_ret (pe_meth (pv 0) T.cl T.m_p_made G_p_made (hr.mono (by decide)) T.b_p_made .nil pass0 (pa_cons (pe_tup (pa_cons pe_str (pa_cons (pv 1) pa_nil))) pa_nil))))), ?_⟩
  refine ⟨_, rfl, v, 0, _, _, rfl, h0, h1, ?_⟩
  refine ⟨_, rfl, a, dx, _, rfl, ho, look_no _ _ _ (by decide +kernel) (by decide +kernel) (by decide +kernel) (by decide +kernel), _, rfl, by show 2 ≤ sizeLine; decide, fun t ht => ?_⟩
  refine ⟨a, l, d, t, n, ps, .get v, rfl, hp.news (same_new ht), upd_same, hn, ?_⟩
  exact k.news (same_new ht)
def sp_p_part (T : Txt K mg) : Sp := fun vs H Q E => ∃ (a l d : Addr) (n : Nat) (ps : List Part) (i : Nat) (p : Part), vs = [.ref a, .int i] ∧ PoolAt T.C H a l d n ps ∧ ps[i]? = some p ∧ ∀ t, H t = some (.tup p.vals) → Q (.ref t) H
theorem sp_p_part_len {T : Txt K mg} {vs H Q E} (h : sp_p_part T vs H Q E) : vs.length = 2 := by obtain ⟨_, _, _, _, _, _, _, rfl, _⟩ := h; rfl
theorem ok_p_part (T : Txt K mg) : FnOk P w K mg base (L2.CX P w) 3 T.f_p_part T.fd_p_part ["self", "number"] (sp_p_part T) := by
  have G_p_check_part := ok_p_check_part (P := P) (w := w) (base := base) T
  refine T.F_p_part.okX sc_p_part (fun vs H Q E h => sp_p_part_len h) (fun cdv A outer s H vs Q E hr h => ?_)
  obtain ⟨a, l, d, n, ps, i, p, rfl, hp, hi, k⟩ := h
  obtain ⟨dx, ho⟩ := id hp.ob
  obtain ⟨xs, hL, ex, hit⟩ := hp.lst.item
  obtain ⟨t, ht, hT⟩ := hit i p hi
  have hlt := (List.getElem?_eq_some_iff.mp hi).1
  refine ⟨_, (pss_one (ps_ret (pe_ix ix_list (pe_fldA (pv 0)) (pe_meth (pv 0) T.cl T.m_p_check_part G_p_check_part hr T.b_p_check_part .nil (passes_call (takes_of rfl rfl rfl rfl) (fun _ _ _ _ h => h)) (pa_cons (pv 1) pa_nil)) (fun _ _ => rfl)))), ?_⟩
  refine ⟨_, rfl, a, T.C, dx, _, _, rfl, ho, T.cl, T.nA__parts, look_parts _ _ _, _, rfl, a, dx, _, rfl, ho, look_no _ _ _ (by decide +kernel) (by decide +kernel) (by decide +kernel) (by decide +kernel), _, rfl, ?_⟩
  refine ⟨a, l, d, n, ps, _, rfl, hp, rfl, fun _ => ?_, fun z => absurd (show goodP ps.length (.int i) = true from decide_eq_true ⟨by omega, by omega⟩) z⟩
  exact ⟨l, xs, _, _, rfl, rfl, SqL.of hL, at_of rfl ht, k t hT⟩
def sp_p_apply (T : Txt K mg) : Sp := fun vs H Q _ => ∃ (a l d : Addr) (n : Nat) (ps : List Part) (o : Op) (x y : Nat), vs = [.ref a, .str o.s, .int x, .int y] ∧ PoolAt T.C H a l d n ps ∧ ps.length < 3999 ∧ n ≤ 12 ∧ x < ps.length ∧ y < ps.length ∧
  Made T.C H a l d n (mApply n ps o x y) Q
theorem sp_p_apply_len {T : Txt K mg} {vs H Q E} (h : sp_p_apply T vs H Q E) : vs.length = 4 := by obtain ⟨_, _, _, _, _, _, _, _, rfl, _⟩ := h; rfl
theorem good_of {n i : Nat} (h : i < n) : goodP n (.int i) = true := decide_eq_true ⟨by omega, by omega⟩
theorem in_ops (o : Op) : inV (.str o.s) [.str "add", .str "sub", .str "and", .str "or", .str "xor", .str "less", .str "same"] = true := by cases o <;> decide +kernel
theorem in_either (o : Op) : inV (.str o.s) [.str "add", .str "and", .str "or", .str "xor", .str "same"] = either o := by cases o <;> decide +kernel
theorem no_meth {m : Str} {w : Nat} {l d : Addr} (h : (decide (m = "width") || decide (m = "_most") || decide (m = "_parts") || decide (m = "_numbers")) = false) : (poolF w l d).lookup m = none := by
  simp only [Bool.or_eq_false_iff, decide_eq_false_iff_not] at h
  exact look_no _ _ _ h.1.1.1 h.1.1.2 h.1.2 h.2
theorem ok_p_apply (T : Txt K mg) : FnOk P w K mg base CX0 3 T.f_p_apply T.fd_p_apply ["self", "name", "one", "other"] (sp_p_apply T) := by
  have G_p_made := ok_p_made (P := P) (w := w) (base := base) T; have G_p_word := ok_p_word (P := P) (w := w) (base := base) T; have G_p_check_part := ok_p_check_part (P := P) (w := w) (base := base) T; have G_op_word := ok_op_word (P := P) (w := w) (base := base) T; have G_shortened := ok_shortened (P := P) (w := w) (base := base) T
  refine T.F_p_apply.ok sc_p_apply (fun vs H Q E h => sp_p_apply_len h) (fun cdv A outer s H vs Q E hr h => ?_)
  obtain ⟨a, l, d, n, ps, o, x, y, rfl, hp, hn, hw, hx, hy, k⟩ := h
  obtain ⟨dx, ho⟩ := id hp.ob
  refine ⟨_, (pss_cons (ps_if (pt_cmpR op_notIn_seq (pv 1) (pe_glob (v := .ref T.a_OPS) rfl T.c_OPS rfl) (by rfl))
        (pss_one ps_never)
        pss_nil)
       (pss_cons (ps_expr (pe_meth (pv 0) T.cl T.m_p_check_part G_p_check_part hr T.b_p_check_part .nil passL (pa_cons (pv 2) pa_nil)))
       (pss_cons (ps_expr (pe_meth (pv 0) T.cl T.m_p_check_part G_p_check_part hr T.b_p_check_part .nil passL (pa_cons (pv 3) pa_nil)))
       (pss_cons (ps_par (i := 4) (j := 5) (by rfl) sc_p_apply.nd rfl rfl (by decide) rfl rfl (pa_cons (pe_meth (pv 0) T.cl T.m_p_word G_p_word (hr.mono (by decide)) T.b_p_word .nil pass0 (pa_cons (pv 2) pa_nil)) (pa_cons (pe_meth (pv 0) T.cl T.m_p_word G_p_word (hr.mono (by decide)) T.b_p_word .nil pass0 (pa_cons (pv 3) pa_nil)) pa_nil)) (by rfl))
       (Evl.pss_cut (ps_if (PW.pt (pw_and (pt_cmpR op_notN (pv 4) pe_non (nomark _)) (pw_and1 (pt_cmpR op_notN (pv 5) pe_non (nomark _)))))
        (pss_one (ps_ret (pe_meth (pv 0) T.cl T.m_p_made G_p_made (hr.mono (by decide)) T.b_p_made .nil pass0 (pa_cons (pe_tup (pa_cons pe_str (pa_cons (pe_call G_op_word (hr.mono (by decide)) rfl T.g_op_word T.F_op_word.kp T.b_op_word .nil pass0 (pa_cons (pv 1) (pa_cons (pv 4) (pa_cons (pv 5) (pa_cons (pe_fldA (pv 0)) pa_nil))))) pa_nil))) pa_nil))))
        pss_nil)
       (Evl.pss_cut (ps_if (PW.pt (pw_and (pt_cmpR op_in_seq (pv 1) (pe_glob (v := .ref T.a_EITHER_WAY) rfl T.c_EITHER_WAY rfl) (by rfl)) (pw_and1 (pt_cmpR op_gt (pv 2) (pv 3) (nomark _)))))
        (pss_cons (ps_par (i := 2) (j := 3) (by rfl) sc_p_apply.nd rfl rfl (by decide) rfl rfl (pa_cons (pv 3) (pa_cons (pv 2) pa_nil)) (by rfl))
       (pss_one (ps_par (i := 4) (j := 5) (by rfl) sc_p_apply.nd rfl rfl (by decide) rfl rfl (pa_cons (pv 5) (pa_cons (pv 4) pa_nil)) (by rfl))))
        pss_nil)
       (pss_cons (ps_set (i := 6) sc_p_apply.nd rfl (Or.inl rfl) (pe_call G_shortened hr rfl T.g_shortened T.F_shortened.kp T.b_shortened .nil pass0 (pa_cons (pv 1) (pa_cons (pv 4) (pa_cons (pv 5) (pa_cons (pe_cmpR op_eq (pv 2) (pv 3) (nomark _)) (pa_cons (pe_fldA (pv 0)) pa_nil)))))))
       (pss_cons (ps_if (pt_cmpR op_eq (pv 6) pe_str (nomark _))
        (pss_one (ps_ret (pv 2)))
        pss_nil)
       (pss_cons (ps_if (pt_cmpR op_eq (pv 6) pe_str (nomark _))
        (pss_one (ps_ret (pv 3)))
        pss_nil)
       (pss_cons (ps_if (pt_cmpR op_eq (pv 6) pe_str (nomark _))
        (pss_one (ps_ret (pe_meth (pv 0) T.cl T.m_p_made G_p_made (hr.mono (by decide)) T.b_p_made .nil pass0 (pa_cons (pe_tup (pa_cons pe_str (pa_cons pe_int pa_nil))) pa_nil))))
        pss_nil)
       (pss_cons (ps_if (pt_cmpR op_eq (pv 6) pe_str (nomark _))
        (pss_one (ps_ret (pe_meth (pv 0) T.cl T.m_p_made G_p_made (hr.mono (by decide)) T.b_p_made .nil pass0 (pa_cons (pe_tup (pa_cons pe_str (pa_cons pe_int pa_nil))) pa_nil))))
        pss_nil)
       (pss_one (ps_ret (pe_meth (pv 0) T.cl T.m_p_made G_p_made (hr.mono (by decide)) T.b_p_made .nil pass0 (pa_cons (pe_tup (pa_cons (pv 1) (pa_cons (pv 2) (pa_cons (pv 3) pa_nil)))) pa_nil))))))))))))))), ?_⟩
  refine ⟨_, rfl, T.a_OPS, _, rfl, Or.inr (T.v_OPS _), rfl, rfl, _, rfl, iteN (by show ¬ (if true = true then !inV _ _ else inV _ _) = true; rw [if_pos rfl, in_ops]; decide) ?_⟩
  refine ⟨_, rfl, a, dx, _, rfl, ho, no_meth (by decide +kernel), _, rfl, a, l, d, n, ps, _, rfl, hp, rfl, fun _ => ?_, fun z => absurd (good_of hx) z⟩
  refine ⟨_, rfl, a, dx, _, rfl, ho, no_meth (by decide +kernel), _, rfl, a, l, d, n, ps, _, rfl, hp, rfl, fun _ => ?_, fun z => absurd (good_of hy) z⟩
  refine ⟨_, rfl, a, dx, _, rfl, ho, no_meth (by decide +kernel), _, rfl, a, l, d, n, ps, x, rfl, hp, hx, ?_⟩
  refine ⟨_, rfl, a, dx, _, rfl, ho, no_meth (by decide +kernel), _, rfl, a, l, d, n, ps, y, rfl, hp, hy, ?_⟩
  refine ⟨_, _, rfl, ?_⟩
  -- if first is not None and second is not None: return self._made(..)
  refine ⟨fun σ' H' => H' = H ∧ σ' = [some (.ref a), some (.str o.s), some (.int x), some (.int y), some (optV (wordOf ps x)), some (optV (wordOf ps y)), none] ∧
    Made T.C H a l d n (if either o = true ∧ y < x then fin ps o y x (shortR o (wordOf ps y) (wordOf ps x) (decide (y = x)) (2 ^ n - 1)) else fin ps o x y (shortR o (wordOf ps x) (wordOf ps y) (decide (x = y)) (2 ^ n - 1))) Q, ?_, ?_⟩
  · unfold mApply at k
    cases efa : wordOf ps x with
    | none =>
      rw [efa] at k
      exact ⟨_, rfl, rfl, _, rfl, iteN (by decide) (iteN (by decide) ⟨rfl, rfl, k⟩)⟩
    | some fx =>
      cases efb : wordOf ps y with
      | none =>
        rw [efa, efb] at k
        exact ⟨_, rfl, rfl, _, rfl, iteP rfl ⟨_, rfl, rfl, _, rfl, iteN (by decide) ⟨rfl, rfl, k⟩⟩⟩
      | some fy =>
        rw [efa, efb] at k
        refine ⟨_, rfl, rfl, _, rfl, iteP rfl ⟨_, rfl, rfl, _, rfl, iteP rfl ?_⟩⟩
        refine ⟨_, rfl, a, dx, _, rfl, ho, no_meth (by decide +kernel), _, rfl, _, rfl, _, rfl, _, rfl, a, T.C, dx, _, _, rfl, ho, T.cl, T.nA_width, look_width _ _ _, o, fx, fy, n, rfl, hw, by show 2 ≤ sizeLine; decide, fun t ht => ?_⟩
        exact ⟨a, l, d, t, n, ps, .num _, rfl, hp.news (same_new ht), upd_same, hn, k.news (same_new ht)⟩
  rintro σ' H' ⟨rfl, rfl, k⟩
  -- the operands change places
  refine ⟨fun σ' H1 => H1 = H' ∧ ∃ (x y : Nat) (fa fb : Option Int), σ' = [some (.ref a), some (.str o.s), some (.int x), some (.int y), some (optV fa), some (optV fb), none] ∧ x < ps.length ∧ y < ps.length ∧
    Made T.C H' a l d n (fin ps o x y (shortR o fa fb (decide (x = y)) (2 ^ n - 1))) Q, ?_, ?_⟩
  · refine ⟨_, rfl, T.a_EITHER_WAY, _, rfl, Or.inr (T.v_EITHER_WAY _), rfl, rfl, _, rfl, ?_⟩
    by_cases he : either o = true
    · refine iteP (by show (if false = true then _ else inV _ _) = true; rw [if_neg Bool.false_ne_true, in_either]; exact he) ?_
      refine ⟨_, rfl, _, rfl, _, _, rfl, rfl, _, rfl, ?_⟩
      by_cases hxy : y < x
      · rw [if_pos ⟨he, hxy⟩] at k
        refine iteP (dT (by omega)) ?_
        exact ⟨_, rfl, _, rfl, _, _, rfl, _, rfl, _, rfl, _, _, rfl, rfl, y, x, _, _, rfl, hy, hx, k⟩
      · rw [if_neg (fun z => hxy z.2)] at k
        exact iteN (dF (by omega)) ⟨rfl, x, y, _, _, rfl, hx, hy, k⟩
    · rw [if_neg (fun z => he z.1)] at k
      exact iteN (by show ¬ (if false = true then _ else inV _ _) = true; rw [if_neg Bool.false_ne_true, in_either]; exact he) (iteN (by decide) ⟨rfl, x, y, _, _, rfl, hx, hy, k⟩)
  rintro σ' H1 ⟨rfl, x, y, fa, fb, rfl, hx, hy, k⟩
  have ed : decide (V.int (x : Int) = V.int y) = decide (x = y) := by
    by_cases e : x = y
    · rw [decide_eq_true e, decide_eq_true (by rw [e])]
    · rw [decide_eq_false e, decide_eq_false (fun z => e (by injection z with z; omega))]
  refine ⟨_, rfl, _, rfl, _, rfl, _, rfl, _, rfl, rfl, _, rfl, a, T.C, dx, _, _, rfl, ho, T.cl, T.nA__most, look_most _ _ _, ?_⟩
  rw [ed]
  refine ⟨o, fa, fb, _, _, rfl, fun H2 s2 => ?_⟩
  have k := k.news s2
  have hp := hp.news s2
  have ho := s2 _ _ ho
  cases e : shortR o fa fb (decide (x = y)) (2 ^ n - 1) with
  | one =>
    rw [e] at k
    refine ⟨_, rfl, rfl, _, rfl, iteP (by decide) ?_⟩
    exact ⟨_, rfl, k H2 hp fun b u h _ _ => h⟩
  | other =>
    rw [e] at k
    refine ⟨_, rfl, rfl, _, rfl, iteN (by decide) ⟨_, rfl, rfl, _, rfl, iteP (by decide) ?_⟩⟩
    exact ⟨_, rfl, k H2 hp fun b u h _ _ => h⟩
  | zero =>
    rw [e] at k
    refine ⟨_, rfl, rfl, _, rfl, iteN (by decide) ⟨_, rfl, rfl, _, rfl, iteN (by decide) ⟨_, rfl, rfl, _, rfl, iteP (by decide) ?_⟩⟩⟩
    refine ⟨_, rfl, a, dx, _, rfl, ho, no_meth (by decide +kernel), by show 2 ≤ sizeLine; decide, fun t ht => ?_⟩
    exact ⟨a, l, d, t, n, ps, .num 0, rfl, hp.news (same_new ht), upd_same, hn, k.news (same_new ht)⟩
  | unit =>
    rw [e] at k
    refine ⟨_, rfl, rfl, _, rfl, iteN (by decide) ⟨_, rfl, rfl, _, rfl, iteN (by decide) ⟨_, rfl, rfl, _, rfl, iteN (by decide) ⟨_, rfl, rfl, _, rfl, iteP (by decide) ?_⟩⟩⟩⟩
    refine ⟨_, rfl, a, dx, _, rfl, ho, no_meth (by decide +kernel), by show 2 ≤ sizeLine; decide, fun t ht => ?_⟩
    exact ⟨a, l, d, t, n, ps, .num 1, rfl, hp.news (same_new ht), upd_same, hn, k.news (same_new ht)⟩
  | no =>
    rw [e] at k
    refine ⟨_, rfl, rfl, _, rfl, iteN (by decide) ⟨_, rfl, rfl, _, rfl, iteN (by decide) ⟨_, rfl, rfl, _, rfl, iteN (by decide) ⟨_, rfl, rfl, _, rfl, iteN (by decide) ?_⟩⟩⟩⟩
    refine ⟨_, rfl, a, dx, _, rfl, ho, no_meth (by decide +kernel), _, rfl, _, rfl, _, rfl, by show 3 ≤ sizeLine; decide, fun t ht => ?_⟩
    exact ⟨a, l, d, t, n, ps, .op o x y, rfl, hp.news (same_new ht), upd_same, hn, k.news (same_new ht)⟩
end
end My

/-! F -/
namespace My
open PySem L2
local macro_rules | `(tactic| walk_at "side") => `(tactic| first | with_reducible rfl | assumption | rfl | decide | omega | exact cpow1 (by omega) (by omega) | exact cdiv (by omega) (by omega) | exact two_pos _ | exact SqL.of (by assumption) | exact SqT.of (by assumption) | exact TyX.base (TyOf.int _) | exact TyX.base (TyOf.bl _) | exact TyX.base TyOf.non | exact scal_opt _ _ | exact k_ii | exact k_bi | exact k_ni | exact k_ib | exact k_bb | exact TyX.base (TyOf.lst (by assumption)) | exact k_ll | exact k_lt)
local macro_rules | `(tactic| walk_at "p") => `(tactic| repeat (first | refine And.intro (by walk_at "side") ?_ | apply Exists.intro | refine iteN (by assumption) ?_ | refine iteP (by assumption) ?_ | refine iteN (by decide) ?_ | refine iteP (by decide) ?_))

section
variable {P : Program} {w : World} {K : PySem.W.Frag} {mg : Str → Option Value} {base : Heap}
theorem yesT {σ : L2.St} {H : Hp} {Q : Bool → Hp → Prop} (h : Q true H) : tYes σ H Q := h
def sp_p_check_parts (T : Txt K mg) : Sp := fun vs H Q _ => ∃ (a l d q : Addr) (n : Nat) (ps : List Part) (i : Nat), vs = [.ref a, .ref q] ∧ PoolAt T.C H a l d n ps ∧ H q = some (.lst [.int i]) ∧ i < ps.length ∧
  ∀ (t : Addr) (H' : Hp), Same H H' → H t = none → H' t = some (.tup [.int i]) → Q (.ref t) H'
theorem sp_p_check_parts_len {T : Txt K mg} {vs H Q E} (h : sp_p_check_parts T vs H Q E) : vs.length = 2 := by obtain ⟨_, _, _, _, _, _, _, rfl, _⟩ := h; rfl
theorem ok_p_check_parts (T : Txt K mg) : FnOk P w K mg base CX0 3 T.f_p_check_parts T.fd_p_check_parts ["self", "numbers"] (sp_p_check_parts T) := by
  have G_p_check_part := ok_p_check_part (P := P) (w := w) (base := base) T; have G_is_row := ok_is_row (P := P) (w := w) (base := base) T
  refine T.F_p_check_parts.ok sc_p_check_parts (fun vs H Q E h => sp_p_check_parts_len h) (fun cdv A outer s H vs Q E hr h => ?_)
  obtain ⟨a, l, d, q, n, ps, i, rfl, hp, hq, hi, k⟩ := h
  refine ⟨_, (pss_cons (ps_if (pt_not (pt_val (pe_call G_is_row (hr.mono (by decide)) rfl T.g_is_row T.F_is_row.kp T.b_is_row .nil pass0 (pa_cons (pv 1) pa_nil))))
        (pss_one ps_never)
        pss_nil)
       (pss_one (ps_ret (pe_callTy call_tupleL (by rfl) T.n_tuple (by decide +kernel) (pa_cons (pe_lc (own := [("number", 2)]) (g := gName 2) (tt := tYes) rfl sc_p_check_parts.nd (pi_list (pv 1)) (blkOk_by (N := ["self", "numbers", "number"]) (sc := defScope s_p_check_parts) (by decide +kernel)) (fun _ _ _ _ _ => by exact pg_name (i := 2) sc_p_check_parts.nd rfl (Or.inl rfl)) (fun _ _ _ _ _ => by exact pts_nil) (fun _ _ _ _ _ => by exact (pe_meth (pv 0) T.cl T.m_p_check_part G_p_check_part hr T.b_p_check_part .nil passL (pa_cons (pv 2) pa_nil)))) pa_nil))))), ?_⟩
  refine ⟨_, rfl, q, _, rfl, hq, fun H1 s1 => ⟨_, rfl, iteN (by decide) ?_⟩⟩
  have hq1 := s1 _ _ hq
  obtain ⟨dx, ho⟩ := hp.ob
  refine ⟨_, rfl, q, rfl, ⟨_, SqL.of hq1⟩, fun D hD => ?_⟩
  refine lc_list (K := K) (a := q) (xs := [.int i]) (fun j H2 => Same H1 H2 ∧ H2 D = some (.lst (List.take j [V.int i]))) ⟨same_new hD, upd_same⟩ (fun j H2 _ ⟨s2, _⟩ => SqL.of (s2 _ _ hq1)) ?_ ?_
  · rintro j x H2 hj ⟨s2, hD2⟩
    have ej : j = 0 := by
      have := (List.getElem?_eq_some_iff.mp hj).1
      simp at this; exact this
    subst ej
    cases hj
    refine ⟨rfl, yesT (iteP rfl ?_)⟩
    have h12 := s1.trans s2
    refine ⟨_, rfl, a, dx, _, rfl, h12 _ _ ho, no_meth (by decide +kernel), _, rfl, a, l, d, n, ps, _, rfl, hp.news h12, rfl, fun _ => ?_, fun z => absurd (good_of hi) z⟩
    refine ⟨_, hD2, by show 0 < sizeLine; rw [sizeLine_eq]; decide, fun b o e => ?_, upd_same⟩
    rw [upd_ne (ne_of_none e hD)]; exact s2 _ _ e
  · rintro H2 ⟨s2, hD2⟩
    refine ⟨D, _, rfl, SqL.of hD2, fun t ht => ?_⟩
    exact k t _ ((s1.trans s2).trans (same_new ht)) ((s1.trans s2).free ht) upd_same
/-- what is found and what waits, in the heap -/
def sp_p_reached_by (T : Txt K mg) : Sp := fun vs H Q _ => ∃ (a l d q : Addr) (n : Nat) (ps : List Part) (i : Nat), vs = [.ref a, .ref q] ∧ PoolAt T.C H a l d n ps ∧ H q = some (.lst [.int i]) ∧ i < ps.length ∧ WF ps ∧ ps.length < 60 ∧
  ∀ (t : Addr) (H' : Hp) (ks : List Nat), ReachL ps i ks → Same H H' → H t = none → H' t = some (.tup (ks.map fun k => V.int (k : Nat))) → Q (.ref t) H'
theorem sp_p_reached_by_len {T : Txt K mg} {vs H Q E} (h : sp_p_reached_by T vs H Q E) : vs.length = 2 := by obtain ⟨_, _, _, _, _, _, _, rfl, _⟩ := h; rfl
theorem ok_p_reached_by (T : Txt K mg) : FnOk P w K mg base CX0 4 T.f_p_reached_by T.fd_p_reached_by ["self", "numbers"] (sp_p_reached_by T) := by
  have G_p_check_parts := ok_p_check_parts (P := P) (w := w) (base := base) T
  refine T.F_p_reached_by.ok sc_p_reached_by (fun vs H Q E h => sp_p_reached_by_len h) (fun cdv A outer s H vs Q E hr h => ?_)
  obtain ⟨a, l, d, q, n, ps, i, rfl, hp, hq, hi, wf, h60, k⟩ := h
  obtain ⟨dx, ho⟩ := id hp.ob
  refine ⟨_, (pss_cons (ps_setDc (i := 2) (own := [("number", 6)]) (g := gName 6) (tt := tYes) rfl sc_p_reached_by.nd rfl rfl (sw_trueD rfl rfl rfl (by decide +kernel)) (pi_tup (pe_meth (pv 0) T.cl T.m_p_check_parts G_p_check_parts hr T.b_p_check_parts .nil pass0 (pa_cons (pv 1) pa_nil))) (blkOk_by (N := ["self", "numbers", "found", "waiting", "part", "operand", "number"]) (sc := defScope s_p_reached_by) (by decide +kernel)) (fun _ _ _ _ _ => by exact pg_name (i := 6) sc_p_reached_by.nd rfl (Or.inl rfl)) (fun _ _ _ _ _ => by exact pts_nil) (fun _ _ _ _ _ => by exact (pv 6)) (fun _ _ _ _ _ => by exact pe_bl))
       (pss_cons (ps_set (i := 3) sc_p_reached_by.nd rfl (Or.inl rfl) (pe_callTy (call_listD rfl) (by rfl) T.n_list (by decide +kernel) (pa_cons (pv 2) pa_nil)))
       (pss_cons (ps_while PassesOwn.never (pt_truth (pv 3) (by intro _; rfl))
        (pss_cons (ps_set (i := 4) sc_p_reached_by.nd rfl (Or.inl rfl) (pe_ix ix_list (pe_fldA (pv 0)) (pe_bm0 PySem.F.plainAttrs_list PySem.F.slot_list_pop PySem.F.type_list_pop mt_pop (pv 3)) (fun _ _ => rfl)))
       (pss_one (ps_if (pt_cmpR op_eq (pe_callB call_lenT (by rfl) T.n_len (by decide +kernel) (pa_cons (pv 4) pa_nil)) pe_int (nomark _))
        (pss_one (ps_for PassesOwn.never rfl (pi_tup (pe_slice sl_tup (pv 4) (po_some pe_int) po_none)) (pg_name (i := 5) sc_p_reached_by.nd rfl (Or.inl rfl))
        (pss_one (ps_if (pt_cmp (pc_dnotin (hu_of hr) (pv 5) (pv 2)))
        (pss_cons (ps_dput (hu_of hr) (pv 2) (pv 5) pe_bl rfl)
       (pss_one (ps_expr (pe_bm PySem.F.plainAttrs_list PySem.F.slot_list_append PySem.F.type_list_append mt_append (pv 3) (pa_cons (pv 5) pa_nil)))))
        pss_nil))))
        pss_nil))))
       (pss_one (ps_ret (pe_callTy call_tupleL (by rfl) T.n_tuple (by decide +kernel) (pa_cons (pe_callB (call_sortedDI rfl) (by rfl) T.n_sorted (by decide +kernel) (pa_cons (pv 2) pa_nil)) pa_nil))))))), ?_⟩
  refine ⟨_, rfl, a, dx, _, rfl, ho, no_meth (by decide +kernel), _, rfl, a, l, d, q, n, ps, i, rfl, hp, hq, hi, fun t H1 s1 ht ht1 => ?_⟩
  refine ⟨t, rfl, ⟨_, SqT.of ht1⟩, fun D hD => ?_⟩
  refine dc_tup (K := K) (a := t) (xs := [.int i]) (fun j H2 => Same H1 H2 ∧ H2 D = some (.dK (dk (List.take j [i])))) ⟨same_new hD, upd_same⟩ (fun j H2 _ ⟨s2, _⟩ => SqT.of (s2 _ _ ht1)) ?_ ?_
  · rintro j x H2 hj ⟨s2, hD2⟩
    have ej : j = 0 := by
      have := (List.getElem?_eq_some_iff.mp hj).1
      simp at this; exact this
    subst ej
    cases hj
    refine ⟨rfl, yesT (iteP rfl ?_)⟩
    refine ⟨_, rfl, _, Sum.inl (i : Int), rfl, hD2, by show 0 < sizeLine; rw [sizeLine_eq]; decide, fun b o e => ?_, upd_same⟩
    rw [upd_ne (ne_of_none e hD)]; exact s2 _ _ e
  rintro H2 ⟨s2, hD2⟩
  have hD2 : H2 D = some (.dK (dk [i])) := hD2
  have hD0 : H D = none := s1.free hD
  -- waiting = list(found)
  refine ⟨_, rfl, D, _, rfl, Rd.of hD2, fun L hL => ?_⟩
  have DL : D ≠ L := ne_of_none hD2 hL
  have hL0 : H L = none := (s1.trans s2).free hL
  -- while waiting: ..
  refine gN ?_
  dsimp only
  refine seqT ?_
  refine (while_by (fun σ H3 => ∃ (F W : List Nat) (v4 v5 : Option V), σ = [some (.ref a), some (.ref q), some (.ref D), some (.ref L), v4, v5, none] ∧ FW ps i F W ∧ (∀ b o, H b = some o → H3 b = some o) ∧
      H3 D = some (.dK (dk F)) ∧ H3 L = some (.lst (W.map fun k => V.int (k : Nat))) ∧ 2 * (ps.length - F.length) + W.length ≤ 2 * ps.length + 1) (fun σ H3 => (match H3 D with | some (.dK kvs) => 2 * (ps.length - kvs.length) | _ => 0) + (match H3 L with | some (.lst xs) => xs.length | _ => 0)) ?_ ?_ ?_)
  · refine ⟨[i], [i], none, none, rfl, ⟨by simp, by simp, ?_, by simp, ?_⟩, fun b o e => ?_, ?_, ?_, ?_⟩
    · intro j hj; simp at hj; subst hj; exact .self
    · intro j hj hn; exact absurd hj hn
    · rw [upd_ne (ne_of_none e hL0)]; exact s2 _ _ (s1 _ _ e)
    · rw [upd_ne DL]; exact hD2
    · rw [upd_same]; rfl
    · simp; omega
  · rintro σ H3 ⟨F, W, v4, v5, rfl, fw, hk, hD3, hL3, hB⟩
    refine ⟨_, rfl, _, Or.inl ⟨_, SqL.of hL3, rfl⟩, ?_⟩
    have hlen : F.length ≤ ps.length := nodup_lt fw.nd fun j hj => by have := (fw.rch j hj).le wf; omega
    rcases W.eq_nil_or_concat with rfl | ⟨W', j, rfl⟩
    · refine iteN (by decide) ?_
      -- return tuple(sorted(found))
      refine ⟨_, rfl, D, _, F.map fun k => ((k : Nat) : Int), rfl, Rd.of hD3, dk_keys F, by rw [List.length_map]; omega, fun ys p hy1 hy2 hp3 => ?_⟩
      refine ⟨p, _, rfl, SqL.of upd_same, fun t' ht' => ?_⟩
      -- the ascending list of what is found
      have hys : ∃ ks : List Nat, ys = ks.map (fun k => ((k : Nat) : Int)) := by
        refine ⟨ys.map Int.toNat, ?_⟩
        rw [List.map_map]
        conv => lhs; rw [← List.map_id ys]
        refine List.map_congr_left fun y hy => ?_
        have := (hy1.mem_iff).mp hy
        rw [List.mem_map] at this
        obtain ⟨z, _, rfl⟩ := this
        rfl
      obtain ⟨ks, rfl⟩ := hys
      have hmem : ∀ z, z ∈ ks ↔ z ∈ F := fun z => by
        have e := hy1.mem_iff (a := ((z : Nat) : Int))
        rw [List.mem_map, List.mem_map] at e
        constructor
        · intro m
          obtain ⟨z', m', e'⟩ := e.mp ⟨z, m, rfl⟩
          rwa [Int.ofNat.inj e'] at m'
        · intro m
          obtain ⟨z', m', e'⟩ := e.mpr ⟨z, m, rfl⟩
          rwa [Int.ofNat.inj e'] at m'
      have hnd : ks.Nodup := by
        have h1 : (ks.map fun k => ((k : Nat) : Int)).Nodup := hy1.nodup_iff.mpr (List.pairwise_map.mpr (fw.nd.imp fun h e => h (Int.ofNat.inj e)))
        exact (List.pairwise_map.mp h1).imp fun h e => h (by rw [e])
      have hasc : ks.Pairwise (· < ·) := by
        have h1 : ks.Pairwise (fun a b => ((a : Nat) : Int) ≤ b) := List.pairwise_map.mp hy2
        exact (h1.and hnd).imp fun {a b} ⟨h1, h2⟩ => by omega
      have s3 : Same H H3 := hk
      refine k t' _ ks ⟨hasc, fun z => (hmem z).trans ⟨fw.rch z, fun r => ?_⟩⟩ ((s3.trans (same_new hp3)).trans (same_new ht')) ((s3.trans (same_new hp3)).free ht') ?_
      · induction r with
        | self => exact fw.n_in
        | left _ e ih => exact (fw.clo _ ih (by simp) _ _ _ e).1
        | right _ e ih => exact (fw.clo _ ih (by simp) _ _ _ e).2
      · rw [upd_same, List.map_map]; rfl
    · refine iteP (by simp) ?_
      rw [List.concat_eq_append] at fw hL3 hB
      have mid := fw.mid
      have hjF : j ∈ F := fw.sub j (by simp)
      have hjn : j < ps.length := by have := (fw.rch j hjF).le wf; omega
      obtain ⟨p, hpj⟩ : ∃ p, ps[j]? = some p := ⟨_, List.getElem?_eq_getElem hjn⟩
      have hp3 : PoolAt T.C H3 a l d n ps := hp.news hk
      obtain ⟨xs, hLl, ex, hit⟩ := hp.lst.item
      obtain ⟨t5, ht5, hT5⟩ := hit j p hpj
      have lL : l ≠ L := ne_of_none hLl hL0
      have tL : t5 ≠ L := ne_of_none hT5 hL0
      have eW : (W' ++ [j]).map (fun k => V.int (k : Nat)) = W'.map (fun k => V.int (k : Nat)) ++ [.int (j : Nat)] := by simp
      have hL3' := hL3
      rw [eW] at hL3'
      refine ⟨_, rfl, a, T.C, dx, _, _, rfl, hk _ _ ho, T.cl, T.nA__parts, look_parts _ _ _, _, rfl, Or.inl ⟨rfl, _, SqL.of hL3'⟩, L, _, .int (j : Nat), rfl, rfl, hL3', by simp, ?_⟩
      rw [List.dropLast_concat]
      have k4 : ∀ b o, H b = some o → upd H3 L (.lst (W'.map fun k => V.int (k : Nat))) b = some o := fun b o e => by rw [upd_ne (ne_of_none e hL0)]; exact hk _ _ e
      refine ⟨l, xs, _, _, rfl, rfl, SqL.of (k4 _ _ hLl), at_of rfl ht5, ?_⟩
      refine ⟨_, rfl, t5, _, rfl, SqT.of (k4 _ _ hT5), rfl, _, rfl, ?_⟩
      have hD4 : upd H3 L (.lst (W'.map fun k => V.int (k : Nat))) D = some (.dK (dk F)) := by rw [upd_ne DL]; exact hD3
      have m3 : (match H3 D with | some (.dK kvs) => 2 * (ps.length - kvs.length) | _ => 0) + (match H3 L with | some (.lst xs) => xs.length | _ => 0) = 2 * (ps.length - F.length) + (W'.length + 1) := by
        rw [hD3, hL3']
        simp [dk_len]
      have close : ∀ (H5 : Hp) (v5 v6 : Option V) (s : List Nat × List Nat), FW ps i s.1 s.2 → (∀ b o, H b = some o → H5 b = some o) → H5 D = some (.dK (dk s.1)) → H5 L = some (.lst (s.2.map fun k => V.int (k : Nat))) → 2 * (ps.length - s.1.length) + s.2.length ≤ 2 * (ps.length - F.length) + W'.length →
          (∃ (F W : List Nat) (v4 v7 : Option V), [some (V.ref a), some (.ref q), some (.ref D), some (.ref L), v5, v6, none] = [some (V.ref a), some (.ref q), some (.ref D), some (.ref L), v4, v7, none] ∧ FW ps i F W ∧ (∀ b o, H b = some o → H5 b = some o) ∧ H5 D = some (.dK (dk F)) ∧ H5 L = some (.lst (W.map fun k => V.int (k : Nat))) ∧ 2 * (ps.length - F.length) + W.length ≤ 2 * ps.length + 1) ∧
          (match H5 D with | some (.dK kvs) => 2 * (ps.length - kvs.length) | _ => 0) + (match H5 L with | some (.lst xs) => xs.length | _ => 0) < (match H3 D with | some (.dK kvs) => 2 * (ps.length - kvs.length) | _ => 0) + (match H3 L with | some (.lst xs) => xs.length | _ => 0) := by
        intro H5 v5 v6 s f h1 h2 h3 hm
        refine ⟨⟨s.1, s.2, v5, v6, rfl, f, h1, h2, h3, by rw [List.length_append, List.length_singleton] at hB; omega⟩, ?_⟩
        rw [m3, h2, h3]
        simp only [dk_len, List.length_map]
        omega
      cases p with
      | num v =>
        refine iteN (fun z => absurd (of_decide_eq_true z) (by simp [Part.vals])) ?_
        exact close _ _ _ (F, W') (mid.fw fun o a b e => by rw [hpj] at e; cases e) k4 hD4 upd_same (Nat.le_refl _)
      | get v =>
        refine iteN (fun z => absurd (of_decide_eq_true z) (by simp [Part.vals])) ?_
        exact close _ _ _ (F, W') (mid.fw fun o a b e => by rw [hpj] at e; cases e) k4 hD4 upd_same (Nat.le_refl _)
      | op o x y =>
        refine iteP (dT rfl) ?_
        refine ⟨_, rfl, 1, rfl, t5, _, rfl, SqT.of (k4 _ _ hT5), by intro z; exact absurd z.1 (by show ¬ HT.sIx 3 0 (some 1) = 0; decide), fun s hs => ?_⟩
        refine ⟨s, rfl, ⟨_, SqT.of upd_same⟩, ?_⟩
        have ecut : cutV (Part.op o x y).vals (some 1) none = [.int (x : Nat), .int (y : Nat)] := rfl
        rw [ecut]
        have rx := Reach.left (fw.rch j hjF) hpj
        have ry := Reach.right (fw.rch j hjF) hpj
        generalize hH4 : upd H3 L (.lst (W'.map fun k => V.int (k : Nat))) = H4 at *
        have hL4 : H4 L = some (.lst (W'.map fun k => V.int (k : Nat))) := by rw [← hH4]; exact upd_same
        have hs0 : H s = none := by
          cases e : H s with
          | none => rfl
          | some u => rw [k4 s u e] at hs; cases hs
        have sD : s ≠ D := (ne_of_none hD4 hs).symm
        have sL : s ≠ L := (ne_of_none hL4 hs).symm
        refine for_tup (K := K) (a := s) (xs := [.int (x : Nat), .int (y : Nat)]) (fun i' σ' H5 => ∃ v6 : Option V, σ' = [some (.ref a), some (.ref q), some (.ref D), some (.ref L), some (.ref t5), v6, none] ∧
          (∀ b o, H b = some o → H5 b = some o) ∧ H5 s = some (.tup [.int (x : Nat), .int (y : Nat)]) ∧ Mid ps i (adds (F, W') ([x, y].take i')) j ∧ (∀ z ∈ [x, y].take i', z ∈ (adds (F, W') ([x, y].take i')).1) ∧
          H5 D = some (.dK (dk (adds (F, W') ([x, y].take i')).1)) ∧ H5 L = some (.lst ((adds (F, W') ([x, y].take i')).2.map fun k => V.int (k : Nat))) ∧
          2 * (ps.length - (adds (F, W') ([x, y].take i')).1.length) + (adds (F, W') ([x, y].take i')).2.length ≤ 2 * (ps.length - F.length) + W'.length) ?_ ?_ ?_ ?_
        · refine ⟨_, rfl, fun b o e => ?_, upd_same, mid, by simp, ?_, ?_, Nat.le_refl _⟩
          · rw [upd_ne (ne_of_none e hs0)]; exact k4 _ _ e
          · rw [upd_ne sD.symm]; exact hD4
          · rw [upd_ne sL.symm]; exact hL4
        · rintro i' σ' H5 _ ⟨_, _, _, h2, _⟩
          exact SqT.of h2
        · rintro i' v σ' H5 hv ⟨v6, rfl, h1, h2, md, h3, h4, h5, h6⟩
          obtain ⟨z, hz, rfl⟩ : ∃ z : Nat, [x, y][i']? = some z ∧ v = .int z := by
            match i', hv with
            | 0, hv => cases hv; exact ⟨x, rfl, rfl⟩
            | 1, hv => cases hv; exact ⟨y, rfl, rfl⟩
            | i' + 2, hv => simp at hv
          have rz : Reach ps i z := by
            match i', hz with
            | 0, hz => cases hz; exact rx
            | 1, hz => cases hz; exact ry
            | i' + 2, hz => simp at hz
          have e1 := adds_two (s := (F, W')) x y i' z hz
          have et : [x, y].take (i' + 1) = [x, y].take i' ++ [z] := by rw [List.take_add_one, hz]; rfl
          have md2 := md.add rz
          have hlen2 : (addN (adds (F, W') ([x, y].take i')) z).1.length ≤ ps.length := nodup_lt md2.nd fun k hk => by have := (md2.rch k hk).le wf; omega
          have me := addN_meas ps.length _ z hlen2
          have h3' : ∀ u ∈ [x, y].take (i' + 1), u ∈ (addN (adds (F, W') ([x, y].take i')) z).1 := fun u hu => by
            rw [et] at hu
            rcases List.mem_append.mp hu with hu | hu
            · exact addN_mono (h3 u hu)
            · simp at hu; subst hu; exact addN_self
          have dg := DGet.k (k := Sum.inl ((z : Nat) : Int)) h4
          rw [valV_dk] at dg
          refine ⟨_, rfl, _, rfl, D, _, rfl, dg, _, rfl, ?_⟩
          by_cases hm : z ∈ (adds (F, W') ([x, y].take i')).1
          · rw [if_pos hm]
            refine iteN (by decide) ?_
            rw [e1]
            rw [addN_in hm] at md2 me h3' ⊢
            exact ⟨_, rfl, h1, h2, md2, h3', h4, h5, Nat.le_trans me h6⟩
          · rw [if_neg hm]
            refine iteP (by decide) ?_
            refine ⟨_, rfl, _, rfl, D, _, rfl, DPut.k (k := Sum.inl ((z : Nat) : Int)) h4 (by rw [dk_len, sizeLine_eq]; have := nodup_lt md.nd fun k hk => (show k < ps.length by have := (md.rch k hk).le wf; omega); omega), ?_⟩
            rw [dk_put hm]
            have h5' : upd H5 D (.dK (dk ((adds (F, W') ([x, y].take i')).1 ++ [z]))) L = some (.lst ((adds (F, W') ([x, y].take i')).2.map fun k => V.int (k : Nat))) := by rw [upd_ne DL.symm]; exact h5
            refine ⟨_, rfl, Or.inl ⟨rfl, _, SqL.of h5'⟩, _, rfl, L, _, _, rfl, rfl, h5', ?_, ?_⟩
            · rw [List.length_map, sizeLine_eq]
              have : (adds (F, W') ([x, y].take i')).2.length ≤ 2 * (ps.length - F.length) + W'.length := by omega
              rw [List.length_append, List.length_singleton] at hB
              omega
            · rw [e1]
              rw [addN_new hm] at md2 me h3' ⊢
              refine ⟨_, rfl, fun b o e => ?_, ?_, md2, h3', ?_, ?_, Nat.le_trans me h6⟩
              · rw [upd_ne (ne_of_none e hL0), upd_ne (ne_of_none e hD0)]; exact h1 _ _ e
              · rw [upd_ne sL, upd_ne sD]; exact h2
              · rw [upd_ne DL]; exact upd_same
              · rw [upd_same, List.map_append]; rfl
        · rintro σ' H5 ⟨v6, rfl, h1, h2, md, h3, h4, h5, h6⟩
          refine close H5 _ _ _ (md.fw fun o' a' b' e => ?_) h1 h4 h5 h6
          rw [hpj] at e
          cases e
          exact ⟨h3 x (by simp), h3 y (by simp)⟩
  · rintro σ H3 Q1 Q2 hq ⟨v, e1, k1, e2, h⟩
    exact ⟨v, e1, k1, e2, hq _ _ h⟩
end
end My

/-! G -/
namespace My
open PySem L2
local macro_rules | `(tactic| walk_at "side") => `(tactic| first | with_reducible rfl | assumption | rfl | decide | omega | exact cpow1 (by omega) (by omega) | exact cdiv (by omega) (by omega) | exact two_pos _ | exact SqL.of (by assumption) | exact SqT.of (by assumption) | exact TyX.base (TyOf.int _) | exact TyX.base (TyOf.bl _) | exact TyX.base TyOf.non | exact scal_opt _ _ | exact k_ii | exact k_bi | exact k_ni | exact k_ib | exact k_bb | exact TyX.base (TyOf.lst (by assumption)) | exact k_ll | exact k_lt)
local macro_rules | `(tactic| walk_at "p") => `(tactic| repeat (first | refine And.intro (by walk_at "side") ?_ | apply Exists.intro | refine iteN (by assumption) ?_ | refine iteP (by assumption) ?_ | refine iteN (by decide) ?_ | refine iteP (by decide) ?_))

section
variable {P : Program} {w : World} {K : PySem.W.Frag} {mg : Str → Option Value} {base : Heap}
def sp_p_reached (T : Txt K mg) : Sp := fun vs H Q E => ∃ (a l d : Addr) (n : Nat) (ps : List Part) (x : V), vs = [.ref a, x] ∧ PoolAt T.C H a l d n ps ∧ plainV x = true ∧ WF ps ∧ ps.length < 60 ∧
  (∀ i : Nat, x = .int i → i < ps.length → ∀ (t : Addr) (H' : Hp) (ks : List Nat), ReachL ps i ks → Same H H' → H t = none → H' t = some (.tup (ks.map fun k => V.int (k : Nat))) → Q (.ref t) H') ∧
  (¬ goodP ps.length x = true → E (.ref T.C_BadPart) none H)
theorem sp_p_reached_len {T : Txt K mg} {vs H Q E} (h : sp_p_reached T vs H Q E) : vs.length = 2 := by obtain ⟨_, _, _, _, _, _, rfl, _⟩ := h; rfl
theorem of_good {n : Nat} {x : V} (h : goodP n x = true) : ∃ i : Nat, x = .int i ∧ i < n := by
  cases x with
  | int j =>
    have := of_decide_eq_true h
    exact ⟨j.toNat, by congr 1; omega, by omega⟩
  | _ => cases h
theorem ok_p_reached (T : Txt K mg) : FnOk P w K mg base (L2.CX P w) 5 T.f_p_reached T.fd_p_reached ["self", "number"] (sp_p_reached T) := by
  have G_p_check_part := ok_p_check_part (P := P) (w := w) (base := base) T; have G_p_reached_by := ok_p_reached_by (P := P) (w := w) (base := base) T
  refine T.F_p_reached.okX sc_p_reached (fun vs H Q E h => sp_p_reached_len h) (fun cdv A outer s H vs Q E hr h => ?_)
  obtain ⟨a, l, d, n, ps, x, rfl, hp, hx, wf, h60, k1, k2⟩ := h
  obtain ⟨dx, ho⟩ := id hp.ob
  refine ⟨_, (pss_one (ps_ret (pe_meth (pv 0) T.cl T.m_p_reached_by G_p_reached_by hr T.b_p_reached_by .nil pass0 (pa_cons (pe_lst (pa_cons (pe_meth (pv 0) T.cl T.m_p_check_part G_p_check_part (hr.mono (by decide)) T.b_p_check_part .nil (passes_call (takes_of rfl rfl rfl rfl) (fun _ _ _ _ h => h)) (pa_cons (pv 1) pa_nil)) pa_nil)) pa_nil)))), ?_⟩
  refine ⟨_, rfl, a, dx, _, rfl, ho, no_meth (by decide +kernel), _, rfl, a, dx, _, rfl, ho, no_meth (by decide +kernel), _, rfl, a, l, d, n, ps, x, rfl, hp, hx, fun g => ?_, fun g => k2 g⟩
  obtain ⟨i, rfl, hi⟩ := of_good g
  refine ⟨by show 1 ≤ sizeLine; decide, fun q hq => ?_⟩
  have s1 := same_new (o := .lst [.int (i : Nat)]) hq
  refine ⟨a, l, d, q, n, ps, i, rfl, hp.news s1, upd_same, hi, wf, h60, fun t H' ks hr s2 ht ht' => ?_⟩
  exact k1 i rfl hi t H' ks hr (s1.trans s2) (s1.free ht) ht'
def sp_p_gets (T : Txt K mg) : Sp := fun vs H Q _ => ∃ (a l d t : Addr) (n : Nat) (ps : List Part) (ks : List Nat), vs = [.ref a, .ref t] ∧ PoolAt T.C H a l d n ps ∧ H t = some (.tup (ks.map fun k => V.int (k : Nat))) ∧ ks.length ≤ 4000 ∧ (∀ k ∈ ks, k < ps.length) ∧
  ∀ (u : Addr) (H' : Hp) (ns : List Int), (∀ i ∈ ns, ∃ k ∈ ks, ps[k]? = some (Part.get i)) → Same H H' → H u = none → H' u = some (.tup (ns.map V.int)) → Q (.ref u) H'
theorem sp_p_gets_len {T : Txt K mg} {vs H Q E} (h : sp_p_gets T vs H Q E) : vs.length = 2 := by obtain ⟨_, _, _, _, _, _, _, rfl, _⟩ := h; rfl
theorem op_ne_get (o : Op) : ¬ o.s = ("get" : Str) := by cases o <;> decide +kernel
theorem op_get_f (o : Op) : ¬ decide (V.str o.s = V.str "get") = true := fun z => op_ne_get o (by have z := of_decide_eq_true z; injection z)
theorem op_num_f (o : Op) : ¬ decide (V.str o.s = V.str "num") = true := fun z => op_ne_num o (by have z := of_decide_eq_true z; injection z)
theorem ok_p_gets (T : Txt K mg) : FnOk P w K mg base CX0 1 T.f_p_gets T.fd_p_gets ["self", "numbers"] (sp_p_gets T) := by
  skip
  refine T.F_p_gets.ok sc_p_gets (fun vs H Q E h => sp_p_gets_len h) (fun cdv A outer s H vs Q E hr h => ?_)
  obtain ⟨a, l, d, t, n, ps, ks, rfl, hp, ht, hz, hk, k⟩ := h
  obtain ⟨dx, ho⟩ := id hp.ob
  obtain ⟨xs, hL, ex, hit⟩ := hp.lst.item
  refine ⟨_, (pss_cons (ps_setLc (i := 2) (te := tOp (rIxL K) (tFld K (tVar 0) "_parts") (tVar 3)) (own := [("number", 3)]) (g := gName 3) (tt := tYes) rfl sc_p_gets.nd rfl rfl (sw_true rfl rfl rfl (by decide +kernel)) (pi_tup (pv 1)) (blkOk_by (N := ["self", "numbers", "parts", "number", "part"]) (sc := defScope s_p_gets) (by decide +kernel)) (fun _ _ _ _ _ => by exact pg_name (i := 3) sc_p_gets.nd rfl (Or.inl rfl)) (fun _ _ _ _ _ => by exact pts_nil) (fun _ _ _ _ _ => by exact (pe_ix ix_list (pe_fldA (pv 0)) (pv 3) (fun _ _ => rfl))))
       (pss_one (ps_ret (pe_callTy call_tupleL (by rfl) T.n_tuple (by decide +kernel) (pa_cons (pe_callB cr_sortedI (by rfl) T.n_sorted (by decide +kernel) (pa_cons (pe_lc (te := tOp (rIxT K) (tVar 4) (tC (.int 1))) (own := [("part", 4)]) (g := gName 4) (tt := (tTest (tOp rEq (tOp (rIxT K) (tVar 4) (tC (.int 0))) (tC (.str "get"))))) rfl sc_p_gets.nd (pi_list (pv 2)) (blkOk_by (N := ["self", "numbers", "parts", "number", "part"]) (sc := defScope s_p_gets) (by decide +kernel)) (fun _ _ _ _ _ => by exact pg_name (i := 4) sc_p_gets.nd rfl (Or.inl rfl)) (fun _ _ _ _ _ => by exact (pts_one (pt_cmpR op_eq (pe_ix ix_tup (pv 4) pe_int (fun _ _ => rfl)) pe_str (nomark _)))) (fun _ _ _ _ _ => by exact (pe_ix ix_tup (pv 4) pe_int (fun _ _ => rfl)))) pa_nil)) pa_nil))))), ?_⟩
  have sz : sizeLine = 16777216 := sizeLine_eq
  refine ⟨_, rfl, t, rfl, ⟨_, SqT.of ht⟩, fun D hD => ?_⟩
  refine lc_tup (K := K) (a := t) (xs := ks.map fun k => V.int (k : Nat)) (fun j H2 => Same H H2 ∧ ∃ ys : List V, H2 D = some (.lst ys) ∧ ys.length = j ∧ ∀ (i : Nat) (y : V), ys[i]? = some y → ∃ (k : Nat) (u : Addr) (p : Part), k ∈ ks ∧ y = V.ref u ∧ ps[k]? = some p ∧ H u = some (.tup p.vals)) ⟨same_new hD, [], upd_same, rfl, by simp⟩ (fun j H2 _ ⟨s2, _⟩ => SqT.of (s2 _ _ ht)) ?_ ?_
  · rintro j x H2 hj ⟨s2, ys, hys, hl, hy⟩
    rw [List.getElem?_map] at hj
    obtain ⟨z, hzj, rfl⟩ := Option.map_eq_some_iff.mp hj
    have hzk := List.mem_of_getElem? hzj
    have hjl := (List.getElem?_eq_some_iff.mp hzj).1
    obtain ⟨p, hp'⟩ : ∃ p, ps[z]? = some p := ⟨_, List.getElem?_eq_getElem (hk z hzk)⟩
    obtain ⟨u, hu, hU⟩ := hit z p hp'
    refine ⟨rfl, yesT (iteP rfl ?_)⟩
    refine ⟨_, rfl, a, T.C, dx, _, _, rfl, s2 _ _ ho, T.cl, T.nA__parts, look_parts _ _ _, _, rfl, l, xs, _, _, rfl, rfl, SqL.of (s2 _ _ hL), at_of rfl hu, ?_⟩
    refine ⟨ys, hys, by omega, fun b o e => ?_, ys ++ [.ref u], upd_same, by simp [hl], fun i y e => ?_⟩
    · rw [upd_ne (ne_of_none e hD)]; exact s2 _ _ e
    · by_cases hi : i < ys.length
      · rw [List.getElem?_append_left hi] at e; exact hy i y e
      · have := (List.getElem?_eq_some_iff.mp e).1
        rw [List.length_append, List.length_singleton] at this
        have ei : i = ys.length := by omega
        subst ei
        rw [List.getElem?_append_right (Nat.le_refl _), Nat.sub_self] at e
        cases e
        exact ⟨z, u, p, hzk, rfl, hp', hU⟩
  rintro H2 ⟨s2, ys, hys, hl, hy⟩
  rw [List.length_map] at hl
  -- tuple(sorted([part[1] for part in parts if part[0] == "get"]))
  refine ⟨_, rfl, D, rfl, ⟨_, SqL.of hys⟩, fun G hG => ?_⟩
  refine lc_list (K := K) (a := D) (xs := ys) (fun j H3 => Same H2 H3 ∧ ∃ ns : List Int, H3 G = some (.lst (ns.map V.int)) ∧ ns.length ≤ j ∧ ∀ i ∈ ns, ∃ k ∈ ks, ps[k]? = some (Part.get i)) ⟨same_new hG, [], upd_same, Nat.le_refl _, by simp⟩ (fun j H3 _ ⟨s3, _⟩ => SqL.of (s3 _ _ hys)) ?_ ?_
  · rintro j x H3 hj ⟨s3, ns, hns, hl3, hn⟩
    obtain ⟨z, u, p, hz', rfl, hp', hU⟩ := hy j x hj
    have hjl := (List.getElem?_eq_some_iff.mp hj).1
    have hU3 := s3 _ _ (s2 _ _ hU)
    cases p with
    | num v => exact ⟨rfl, _, rfl, u, _, 0, _, rfl, rfl, SqT.of hU3, rfl, rfl, _, rfl, iteN (by decide) ⟨s3, ns, hns, by omega, hn⟩⟩
    | op o x y => exact ⟨rfl, _, rfl, u, _, 0, _, rfl, rfl, SqT.of hU3, rfl, rfl, _, rfl, iteN (op_get_f o) ⟨s3, ns, hns, by omega, hn⟩⟩
    | get v =>
      refine ⟨rfl, _, rfl, u, _, 0, _, rfl, rfl, SqT.of hU3, rfl, rfl, _, rfl, iteP (by decide) ?_⟩
      refine ⟨_, rfl, u, _, 1, _, rfl, rfl, SqT.of hU3, rfl, ?_⟩
      refine ⟨_, hns, by rw [List.length_map]; omega, fun b o e => ?_, ns ++ [v], by rw [upd_same, List.map_append]; rfl, by simp; omega, fun i hi => ?_⟩
      · rw [upd_ne (ne_of_none e hG)]; exact s3 _ _ e
      · rcases List.mem_append.mp hi with hi | hi
        · exact hn i hi
        · simp at hi; subst hi; exact ⟨z, hz', hp'⟩
  rintro H3 ⟨s3, ns, hns, hl3, hn⟩
  refine ⟨G, ns, rfl, SqL.of hns, fun ns' p hperm _ hpn => ?_⟩
  refine ⟨p, _, rfl, SqL.of upd_same, fun u hu => ?_⟩
  have s4 := ((s2.trans s3).trans (same_new (o := .lst (ns'.map V.int)) hpn)).trans (same_new (o := .tup (ns'.map V.int)) hu)
  exact k u _ ns' (fun i hi => hn i (hperm.mem_iff.mp hi)) s4 (((s2.trans s3).trans (same_new hpn)).free hu) upd_same
end
end My

/-! I -/
namespace My
open PySem L2
local macro_rules | `(tactic| walk_at "side") => `(tactic| first | with_reducible rfl | assumption | rfl | decide | omega | exact cpow1 (by omega) (by omega) | exact cdiv (by omega) (by omega) | exact two_pos _ | exact SqL.of (by assumption) | exact SqT.of (by assumption) | exact TyX.base (TyOf.int _) | exact TyX.base (TyOf.bl _) | exact TyX.base TyOf.non | exact scal_opt _ _ | exact k_ii | exact k_bi | exact k_ni | exact k_ib | exact k_bb | exact TyX.base (TyOf.lst (by assumption)) | exact k_ll | exact k_lt)
local macro_rules | `(tactic| walk_at "p") => `(tactic| repeat (first | refine And.intro (by walk_at "side") ?_ | apply Exists.intro | refine iteN (by assumption) ?_ | refine iteP (by assumption) ?_ | refine iteN (by decide) ?_ | refine iteP (by decide) ?_))

section
variable {P : Program} {w : World} {K : PySem.W.Frag} {mg : Str → Option Value} {base : Heap}
theorem PoolAt.updK {C : Addr} {H : Hp} {a l d D : Addr} {n : Nat} {ps : List Part} {kvs kvs' : List (Key × V)} (h : PoolAt C H a l d n ps) (hD : H D = some (.dK kvs)) : PoolAt C (upd H D (.dK kvs')) a l d n ps := by
  obtain ⟨dx, ho⟩ := id h.ob
  obtain ⟨ts, hl, _⟩ := id h.lst
  refine h.keep (S := fun b => b = D) (fun b o e hb => by rw [upd_ne hb]; exact e) (ne_of ho hD (by intro z; cases z)) (ne_of hl hD (by intro z; cases z)) (ne_of h.dic hD (by intro z; cases z)) fun t xs e => ne_of e hD (by intro z; cases z)
def sp_carried (T : Txt K mg) : Sp := fun vs H Q E => ∃ (a l d a2 l2 d2 : Addr) (n w2 : Nat) (ps qs : List Part) (x : V), vs = [.ref a, x, .ref a2] ∧ PoolAt T.C H a l d n ps ∧ Ok n ps ∧ ps.length < 60 ∧ plainV x = true ∧ PoolAt T.C H a2 l2 d2 w2 qs ∧ 1 ≤ w2 ∧ w2 ≤ 12 ∧ Ok w2 qs ∧ qs.length ≤ 3000 ∧ l ≠ l2 ∧ d ≠ d2 ∧
  (∀ i : Nat, x = .int i → i < ps.length → ∀ (H' : Hp) (ks : List Nat), ReachL ps i ks → CInv w2 ps qs ks (mCarry w2 ps ks qs) → PoolAt T.C H' a2 l2 d2 w2 (mCarry w2 ps ks qs).1 → (∀ b o, H b = some o → b ≠ l2 → b ≠ d2 → H' b = some o) → Q (.int (look (mCarry w2 ps ks qs).2 i : Nat)) H') ∧
  (¬ goodP ps.length x = true → E (.ref T.C_BadPart) none H)
theorem sp_carried_len {T : Txt K mg} {vs H Q E} (h : sp_carried T vs H Q E) : vs.length = 3 := by obtain ⟨_, _, _, _, _, _, _, _, _, _, _, rfl, _⟩ := h; rfl
theorem ok_carried (T : Txt K mg) : FnOk P w K mg base (L2.CX P w) 6 T.f_carried T.fd_carried ["pool", "part", "other"] (sp_carried T) := by
  have G_p_apply := ok_p_apply (P := P) (w := w) (base := base) T; have G_p_num := ok_p_num (P := P) (w := w) (base := base) T; have G_p_part := ok_p_part (P := P) (w := w) (base := base) T; have G_p_reached := ok_p_reached (P := P) (w := w) (base := base) T; have G_p_unknown := ok_p_unknown (P := P) (w := w) (base := base) T; have G_ones := ok_ones (P := P) (w := w) (base := base) T
  refine T.F_carried.okX sc_carried (fun vs H Q E h => sp_carried_len h) (fun cdv A outer s H vs Q E hr h => ?_)
  obtain ⟨a, l, d, a2, l2, d2, n, w2, ps, qs, x, rfl, hp, ok1, h60, hx, hp2, w1, w12, ok2, hq3, ll, dd, k1, k2⟩ := h
  obtain ⟨dx, ho⟩ := id hp.ob
  obtain ⟨dx2, ho2⟩ := id hp2.ob
  obtain ⟨ts2, hL2, _⟩ := id hp2.lst
  refine ⟨_, (pss_cons (ps_set (i := 3) sc_carried.nd rfl (Or.inl rfl) (pe_meth (pv 0) T.cl T.m_p_reached G_p_reached hr T.b_p_reached .nil (passes_call (takes_of rfl rfl rfl rfl) (fun _ _ _ _ h => h)) (pa_cons (pv 1) pa_nil)))
       (pss_cons (ps_set (i := 4) sc_carried.nd rfl (Or.inl rfl) (pe_call G_ones (hr.mono (by decide)) rfl T.g_ones T.F_ones.kp T.b_ones .nil pass0 (pa_cons (pe_fldA (pv 2)) pa_nil)))
       (pss_cons (ps_set (i := 5) sc_carried.nd rfl (Or.inl rfl) pe_dnewK)
       (pss_cons (ps_for (passes_of rfl) rfl (pi_tup (pv 3)) (pg_name (i := 6) sc_carried.nd rfl (Or.inl rfl))
        (pss_cons (ps_set (i := 7) sc_carried.nd rfl (Or.inl rfl) (pe_meth (pv 0) T.cl T.m_p_part G_p_part (hr.mono (by decide)) T.b_p_part .nil (passes_call (takes_of rfl rfl rfl rfl) (fun _ _ _ _ h => h)) (pa_cons (pv 6) pa_nil)))
       (pss_one (ps_if (pt_cmpR op_eq (pe_callB call_lenT (by rfl) T.n_len (by decide +kernel) (pa_cons (pv 7) pa_nil)) pe_int (nomark _))
        (pss_one (ps_dput (hu_of hr) (pv 5) (pv 6) (pe_meth (pv 2) T.cl T.m_p_apply G_p_apply (hr.mono (by decide)) T.b_p_apply .nil pass0 (pa_cons (pe_ix ix_tup (pv 7) pe_int (fun _ _ => rfl)) (pa_cons (pe_dget (hu_of hr) (pv 5) (pe_ix ix_tup (pv 7) pe_int (fun _ _ => rfl)) (fun _ _ => rfl)) (pa_cons (pe_dget (hu_of hr) (pv 5) (pe_ix ix_tup (pv 7) pe_int (fun _ _ => rfl)) (fun _ _ => rfl)) pa_nil)))) rfl))
        (pss_one (ps_if (pt_cmpR op_eq (pe_ix ix_tup (pv 7) pe_int (fun _ _ => rfl)) pe_str (nomark _))
        (pss_one (ps_dput (hu_of hr) (pv 5) (pv 6) (pe_meth (pv 2) T.cl T.m_p_unknown G_p_unknown (hr.mono (by decide)) T.b_p_unknown .nil pass0 (pa_cons (pe_ix ix_tup (pv 7) pe_int (fun _ _ => rfl)) pa_nil)) rfl))
        (pss_one (ps_dput (hu_of hr) (pv 5) (pv 6) (pe_meth (pv 2) T.cl T.m_p_num G_p_num (hr.mono (by decide)) T.b_p_num .nil pass0 (pa_cons (pe_op op_and (pe_ix ix_tup (pv 7) pe_int (fun _ _ => rfl)) (pv 4)) pa_nil)) rfl))))))))
       (pss_one (ps_ret (pe_dget (hu_of hr) (pv 5) (pv 1) (fun _ _ => rfl)))))))), ?_⟩
  refine ⟨_, rfl, a, dx, _, rfl, ho, no_meth (by decide +kernel), _, rfl, a, l, d, n, ps, x, rfl, hp, hx, ok1.wf, h60, fun i ei hi t H1 ks hr s1 ht ht1 => ?_, fun g => k2 g⟩
  subst ei
  have k1 := k1 i rfl hi
  clear k2
  -- most = ones(other.width); made = {}
  refine ⟨_, rfl, a2, T.C, dx2, _, _, rfl, s1 _ _ ho2, T.cl, T.nA_width, look_width _ _ _, w2, rfl, w12, ?_⟩
  intro D hD
  have hD0 : H D = none := s1.free hD
  have s2 : Same H (upd H1 D (.dK [])) := s1.trans (same_new hD)
  have tD : t ≠ D := ne_of_none ht1 hD
  refine ⟨_, rfl, t, rfl, ⟨_, SqT.of (by rw [upd_ne tD]; exact ht1)⟩, ?_⟩
  have ksl : ks.length ≤ ps.length := nodup_lt (hr.asc.imp fun h => Nat.ne_of_lt h) fun k hk => by have := ((hr.mem k).mp hk).le ok1.wf; omega
  have sz : sizeLine = 16777216 := sizeLine_eq
  refine for_tup (K := K) (a := t) (xs := ks.map fun k => V.int (k : Nat)) (fun j σ' H3 => ∃ v6 v7 : Option V, σ' = [some (.ref a), some (.int (i : Nat)), some (.ref a2), some (.ref t), some (.int (2 ^ w2 - 1)), some (.ref D), v6, v7] ∧
    PoolAt T.C H3 a2 l2 d2 w2 (mCarry w2 ps (ks.take j) qs).1 ∧ H3 D = some (.dK (dm (mCarry w2 ps (ks.take j) qs).2)) ∧ CInv w2 ps qs (ks.take j) (mCarry w2 ps (ks.take j) qs) ∧
    (∀ b o, H b = some o → b ≠ l2 → b ≠ d2 → H3 b = some o) ∧ H3 t = some (.tup (ks.map fun k => V.int (k : Nat)))) ?_ ?_ ?_ ?_
  · exact ⟨none, none, rfl, hp2.news s2, upd_same, CInv.start ok2, fun b o e _ _ => s2 b o e, by rw [upd_ne tD]; exact ht1⟩
  · rintro j σ' H3 _ ⟨_, _, _, _, _, _, _, h⟩
    exact SqT.of h
  · rintro j y σ' H3 hj ⟨v6, v7, rfl, hP, hDm, ci, hk, hT3⟩
    rw [List.getElem?_map] at hj
    obtain ⟨k, hkj, rfl⟩ := Option.map_eq_some_iff.mp hj
    have hk0 := List.mem_of_getElem? hkj
    have hkr := (hr.mem k).mp hk0
    have hkn : k < ps.length := by have := hkr.le ok1.wf; omega
    obtain ⟨p, hpk⟩ : ∃ p, ps[k]? = some p := ⟨_, List.getElem?_eq_getElem hkn⟩
    have et : ks.take (j + 1) = ks.take j ++ [k] := by rw [List.take_add_one, hkj]; rfl
    have em : mCarry w2 ps (ks.take (j + 1)) qs = cstep w2 ps (mCarry w2 ps (ks.take j) qs) k := by unfold mCarry; rw [et, List.foldl_append]; rfl
    have hab : ∀ o a b, p = Part.op o a b → a ∈ ks.take j ∧ b ∈ ks.take j := fun o a b e => by
      subst e
      have := ok1.wf _ _ _ _ hpk
      exact ⟨asc_take hr.asc hkj ((hr.mem a).mpr (.left hkr hpk)) this.1, asc_take hr.asc hkj ((hr.mem b).mpr (.right hkr hpk)) this.2⟩
    have ci2 := ci.step w1 ok1.get hpk hab
    have hnk : k ∉ (mCarry w2 ps (ks.take j) qs).2.map (fun (x : Nat × Nat) => x.1) := by
      rw [ci.keys]
      intro hm
      obtain ⟨j', hj', e⟩ := List.mem_take_iff_getElem.mp hm
      have hjl := (List.getElem?_eq_some_iff.mp hkj).1
      have ejk := (List.getElem?_eq_some_iff.mp hkj).2
      have := List.pairwise_iff_getElem.mp hr.asc j' j (by omega) hjl (by omega)
      omega
    have hp3 : PoolAt T.C H3 a l d n ps := hp.keep (S := fun b => b = l2 ∨ b = d2) (fun b o e hb => hk b o e (fun z => hb (.inl z)) (fun z => hb (.inr z)))
      (by rintro (z | z); exact ne_of ho hL2 (by intro z; cases z) z; exact ne_of ho hp2.dic (by intro z; cases z) z)
      (by obtain ⟨ts, hL, _⟩ := hp.lst; rintro (z | z); exact ll z; exact ne_of hL hp2.dic (by intro z; cases z) z)
      (by rintro (z | z); exact ne_of hp.dic hL2 (by intro z; cases z) z; exact dd z)
      (fun t xs e => by rintro (z | z); exact ne_of e hL2 (by intro z; cases z) z; exact ne_of e hp2.dic (by intro z; cases z) z)
    obtain ⟨dx3, ho3⟩ := id hp3.ob
    obtain ⟨dx4, ho4⟩ := id hP.ob
    have hlen : (mCarry w2 ps (ks.take j) qs).1.length < 3999 := by have := ci.len; rw [List.length_take] at this; omega
    -- row = pool.part(number)
    refine ⟨_, rfl, a, dx3, _, rfl, ho3, no_meth (by decide +kernel), _, rfl, a, l, d, n, ps, k, p, rfl, hp3, hpk, fun u hu => ?_⟩
    refine ⟨_, rfl, u, _, rfl, SqT.of hu, rfl, _, rfl, ?_⟩
    -- what each way leaves
    have Dl2 : D ≠ l2 := fun e => by rw [e, hL2] at hD0; cases hD0
    have Dd2 : D ≠ d2 := fun e => by rw [e, hp2.dic] at hD0; cases hD0
    have tl2 : t ≠ l2 := ne_of ht1 (s1 _ _ hL2) (by intro z; cases z)
    have td2 : t ≠ d2 := ne_of ht1 (s1 _ _ hp2.dic) (by intro z; cases z)
    have hz : (dm (mCarry w2 ps (ks.take j) qs).2).length < sizeLine := by
      have : (mCarry w2 ps (ks.take j) qs).2.length = (ks.take j).length := by have := congrArg List.length ci.keys; rw [List.length_map] at this; exact this
      rw [dm_len, this, List.length_take]; omega
    have fin : ∀ (H4 : Hp) (v6 v7 : Option V), PoolAt T.C H4 a2 l2 d2 w2 (cstepR w2 ps (mCarry w2 ps (ks.take j) qs) k).2 → (∀ b o, H3 b = some o → b ≠ l2 → b ≠ d2 → H4 b = some o) →
        ∃ v6' v7' : Option V, [some (.ref a), some (.int (i : Nat)), some (.ref a2), some (.ref t), some (.int (2 ^ w2 - 1)), some (.ref D), v6, v7] = [some (.ref a), some (.int (i : Nat)), some (.ref a2), some (.ref t), some (.int (2 ^ w2 - 1)), some (.ref D), v6', v7'] ∧
        PoolAt T.C (upd H4 D (.dK (putK (dm (mCarry w2 ps (ks.take j) qs).2) (Sum.inl ((k : Nat) : Int)) (.int ((cstepR w2 ps (mCarry w2 ps (ks.take j) qs) k).1 : Nat))))) a2 l2 d2 w2 (mCarry w2 ps (ks.take (j + 1)) qs).1 ∧
        upd H4 D (.dK (putK (dm (mCarry w2 ps (ks.take j) qs).2) (Sum.inl ((k : Nat) : Int)) (.int ((cstepR w2 ps (mCarry w2 ps (ks.take j) qs) k).1 : Nat)))) D = some (.dK (dm (mCarry w2 ps (ks.take (j + 1)) qs).2)) ∧
        CInv w2 ps qs (ks.take (j + 1)) (mCarry w2 ps (ks.take (j + 1)) qs) ∧
        (∀ b o, H b = some o → b ≠ l2 → b ≠ d2 → upd H4 D (.dK (putK (dm (mCarry w2 ps (ks.take j) qs).2) (Sum.inl ((k : Nat) : Int)) (.int ((cstepR w2 ps (mCarry w2 ps (ks.take j) qs) k).1 : Nat)))) b = some o) ∧
        upd H4 D (.dK (putK (dm (mCarry w2 ps (ks.take j) qs).2) (Sum.inl ((k : Nat) : Int)) (.int ((cstepR w2 ps (mCarry w2 ps (ks.take j) qs) k).1 : Nat)))) t = some (.tup (ks.map fun k => V.int (k : Nat))) := by
      intro H4 v6 v7 hp4 hk4
      have hD4 := hk4 _ _ hDm Dl2 Dd2
      refine ⟨v6, v7, rfl, ?_, ?_, by rw [em, et]; exact ci2, fun b o e h1 h2 => ?_, ?_⟩
      · rw [em]; exact hp4.updK hD4
      · rw [upd_same, dm_put hnk, em]; rfl
      · rw [upd_ne (ne_of_none e hD0)]; exact hk4 _ _ (hk _ _ e h1 h2) h1 h2
      · rw [upd_ne tD]; exact hk4 _ _ hT3 tl2 td2
    have getm : ∀ z, z ∈ ks.take j → DGet H3 D (.int (z : Nat)) (some (.int (look (mCarry w2 ps (ks.take j) qs).2 z : Nat))) := fun z hz => by
      have dg := DGet.k (k := Sum.inl ((z : Nat) : Int)) hDm
      rw [valV_dm, if_pos (by rw [ci.keys]; exact hz)] at dg
      exact dg
    cases p with
    | op o x y =>
      obtain ⟨hx', hy'⟩ := hab o x y rfl
      have er : cstepR w2 ps (mCarry w2 ps (ks.take j) qs) k = mApply w2 (mCarry w2 ps (ks.take j) qs).1 o (look (mCarry w2 ps (ks.take j) qs).2 x) (look (mCarry w2 ps (ks.take j) qs).2 y) := by unfold cstepR; rw [hpk]
      refine iteP (dT rfl) ?_
      refine ⟨_, rfl, a2, dx4, _, rfl, ho4, no_meth (by decide +kernel), _, rfl, u, _, 0, _, rfl, rfl, SqT.of hu, rfl, _, rfl, _, rfl, u, _, 1, _, rfl, rfl, SqT.of hu, rfl, D, _, rfl, getm x hx', _, rfl, _, rfl, u, _, 2, _, rfl, rfl, SqT.of hu, rfl, D, _, rfl, getm y hy', ?_⟩
      refine ⟨a2, l2, d2, w2, _, o, _, _, rfl, hP, hlen, w12, ci.look hx', ci.look hy', fun H4 hp4 hk4 => ?_⟩
      rw [← er] at hp4 ⊢
      exact ⟨_, rfl, _, rfl, D, _, rfl, DPut.k (k := Sum.inl ((k : Nat) : Int)) (hk4 _ _ hDm Dl2 Dd2) hz, fin H4 _ _ hp4 hk4⟩
    | get v =>
      have er : cstepR w2 ps (mCarry w2 ps (ks.take j) qs) k = mk (mCarry w2 ps (ks.take j) qs).1 (.get v) := by unfold cstepR; rw [hpk]
      have hv := ok1.get _ _ hpk
      refine iteN (fun z => absurd (of_decide_eq_true z) (by simp [Part.vals])) ?_
      refine ⟨_, rfl, u, _, 0, _, rfl, rfl, SqT.of hu, rfl, rfl, _, rfl, iteP (by decide) ?_⟩
      refine ⟨_, rfl, a2, dx4, _, rfl, ho4, no_meth (by decide +kernel), _, rfl, u, _, 1, _, rfl, rfl, SqT.of hu, rfl, ?_⟩
      refine ⟨a2, l2, d2, w2, _, v, rfl, hP, hlen, hv.1, hv.2, fun H4 hp4 hk4 => ?_⟩
      rw [← er] at hp4 ⊢
      exact ⟨_, rfl, _, rfl, D, _, rfl, DPut.k (k := Sum.inl ((k : Nat) : Int)) (hk4 _ _ hDm Dl2 Dd2) hz, fin H4 _ _ hp4 hk4⟩
    | num v =>
      have er : cstepR w2 ps (mCarry w2 ps (ks.take j) qs) k = mk (mCarry w2 ps (ks.take j) qs).1 (.num (v % 2 ^ w2)) := by unfold cstepR; rw [hpk]
      have ev : Builtin.bitAnd v (2 ^ w2 - 1) = v % 2 ^ w2 := PySem.W.kbt_mask v w2
      have p2 := pow_pos' w2
      have r1 := Int.emod_nonneg v (show (2 : Int) ^ w2 ≠ 0 by omega)
      have r2 := Int.emod_lt_of_pos v p2
      refine iteN (fun z => absurd (of_decide_eq_true z) (by simp [Part.vals])) ?_
      refine ⟨_, rfl, u, _, 0, _, rfl, rfl, SqT.of hu, rfl, rfl, _, rfl, iteN (by decide) ?_⟩
      refine ⟨_, rfl, a2, dx4, _, rfl, ho4, no_meth (by decide +kernel), _, rfl, u, _, 1, _, rfl, rfl, SqT.of hu, rfl, _, rfl, _, _, rfl, rfl, ?_⟩
      refine ⟨a2, l2, d2, w2, _, v % 2 ^ w2, by rw [← ev]; rfl, hP, hlen, r1, by omega, fun H4 hp4 hk4 => ?_⟩
      rw [← er] at hp4 ⊢
      exact ⟨_, rfl, _, rfl, D, _, rfl, DPut.k (k := Sum.inl ((k : Nat) : Int)) (hk4 _ _ hDm Dl2 Dd2) hz, fin H4 _ _ hp4 hk4⟩
  · rintro σ' H3 ⟨v6, v7, rfl, hP, hDm, ci, hk, hT3⟩
    rw [List.length_map] at hP hDm ci
    rw [List.take_length] at hP hDm ci
    have hik : i ∈ ks := (hr.mem i).mpr .self
    have dg := DGet.k (k := Sum.inl ((i : Nat) : Int)) hDm
    rw [valV_dm, if_pos (by rw [ci.keys]; exact hik)] at dg
    refine ⟨_, rfl, _, rfl, D, _, rfl, dg, ?_⟩
    exact k1 H3 ks hr ci hP hk
end
end My

/-! J -/
namespace My
open PySem L2
local macro_rules | `(tactic| walk_at "side") => `(tactic| first | with_reducible rfl | assumption | rfl | decide | omega | exact cpow1 (by omega) (by omega) | exact cdiv (by omega) (by omega) | exact two_pos _ | exact SqL.of (by assumption) | exact SqT.of (by assumption) | exact TyX.base (TyOf.int _) | exact TyX.base (TyOf.bl _) | exact TyX.base TyOf.non | exact scal_opt _ _ | exact k_ii | exact k_bi | exact k_ni | exact k_ib | exact k_bb | exact TyX.base (TyOf.lst (by assumption)) | exact k_ll | exact k_lt)
local macro_rules | `(tactic| walk_at "p") => `(tactic| repeat (first | refine And.intro (by walk_at "side") ?_ | apply Exists.intro | refine iteN (by assumption) ?_ | refine iteP (by assumption) ?_ | refine iteN (by decide) ?_ | refine iteP (by decide) ?_))

section
variable {P : Program} {w : World} {K : PySem.W.Frag} {mg : Str → Option Value} {base : Heap}
def sp_p_value (T : Txt K mg) : Sp := fun vs H Q _ => ∃ (a l d q : Addr) (n : Nat) (ps : List Part) (i : Nat) (ws : List Int), vs = [.ref a, .int i, .ref q] ∧ PoolAt T.C H a l d n ps ∧ Ok n ps ∧ ps.length < 60 ∧ n ≤ 12 ∧ i < ps.length ∧ H q = some (.lst (ws.map V.int)) ∧
  (∀ x ∈ ws, 0 ≤ x ∧ x < 2 ^ n) ∧ (∀ (k : Nat) (g : Int), ps[k]? = some (Part.get g) → g < ws.length) ∧ ∀ H', Same H H' → Q (.int (evAt n (envOf ws) ps i)) H'
theorem sp_p_value_len {T : Txt K mg} {vs H Q E} (h : sp_p_value T vs H Q E) : vs.length = 3 := by obtain ⟨_, _, _, _, _, _, _, _, rfl, _⟩ := h; rfl
theorem ok_p_value (T : Txt K mg) : FnOk P w K mg base CX0 6 T.f_p_value T.fd_p_value ["self", "number", "words"] (sp_p_value T) := by
  have G_p_gets := ok_p_gets (P := P) (w := w) (base := base) T; have G_p_reached := ok_p_reached (P := P) (w := w) (base := base) T; have G_is_int := ok_is_int (P := P) (w := w) (base := base) T; have G_is_row := ok_is_row (P := P) (w := w) (base := base) T; have G_op_word := ok_op_word (P := P) (w := w) (base := base) T
  refine T.F_p_value.ok sc_p_value (fun vs H Q E h => sp_p_value_len h) (fun cdv A outer s H vs Q E hr h => ?_)
  obtain ⟨a, l, d, q, n, ps, i, ws, rfl, hp, ok1, h60, hn, hi, hq, hw, hg, k⟩ := h
  obtain ⟨dx, ho⟩ := id hp.ob
  obtain ⟨xs, hL, ex, hit⟩ := hp.lst.item
  refine ⟨_, (pss_cons (ps_set (i := 3) sc_p_value.nd rfl (Or.inl rfl) (pe_meth (pv 0) T.cl T.m_p_reached G_p_reached hr T.b_p_reached .nil passL (pa_cons (pv 1) pa_nil)))
       (pss_cons (ps_if (pt_not (pt_val (pe_call G_is_row (hr.mono (by decide)) rfl T.g_is_row T.F_is_row.kp T.b_is_row .nil pass0 (pa_cons (pv 2) pa_nil))))
        (pss_one ps_never)
        pss_nil)
       (pss_cons (ps_for PassesOwn.never rfl (pi_tup (pe_meth (pv 0) T.cl T.m_p_gets G_p_gets (hr.mono (by decide)) T.b_p_gets .nil pass0 (pa_cons (pv 3) pa_nil))) (pg_name (i := 4) sc_p_value.nd rfl (Or.inl rfl))
        (pss_one (ps_if (PW.pt (pw_or (pt_cmpR op_ge (pv 4) (pe_callB call_lenL (by rfl) T.n_len (by decide +kernel) (pa_cons (pv 2) pa_nil)) (nomark _)) (pw_or (pt_not (pt_val (pe_call G_is_int (hr.mono (by decide)) rfl T.g_is_int T.F_is_int.kp T.b_is_int .nil pass0 (pa_cons (pe_ix ix_list (pv 2) (pv 4) (fun _ _ => rfl)) pa_nil)))) (pw_or (pt_cmpR op_lt (pe_ix ix_list (pv 2) (pv 4) (fun _ _ => rfl)) pe_int (nomark _)) (pw_or1 (pt_cmpR op_gt (pe_ix ix_list (pv 2) (pv 4) (fun _ _ => rfl)) (pe_fldA (pv 0)) (nomark _)))))))
        (pss_one ps_never)
        pss_nil)))
       (pss_cons (ps_set (i := 5) sc_p_value.nd rfl (Or.inl rfl) pe_dnewK)
       (pss_cons (ps_for PassesOwn.never rfl (pi_tup (pv 3)) (pg_name (i := 6) sc_p_value.nd rfl (Or.inl rfl))
        (pss_cons (ps_set (i := 7) sc_p_value.nd rfl (Or.inl rfl) (pe_ix ix_list (pe_fldA (pv 0)) (pv 6) (fun _ _ => rfl)))
       (pss_one (ps_if (pt_cmpR op_eq (pe_ix ix_tup (pv 7) pe_int (fun _ _ => rfl)) pe_str (nomark _))
        (pss_one (ps_dput (hu_of hr) (pv 5) (pv 6) (pe_ix ix_tup (pv 7) pe_int (fun _ _ => rfl)) rfl))
        (pss_one (ps_if (pt_cmpR op_eq (pe_ix ix_tup (pv 7) pe_int (fun _ _ => rfl)) pe_str (nomark _))
        (pss_one (ps_dput (hu_of hr) (pv 5) (pv 6) (pe_ix ix_list (pv 2) (pe_ix ix_tup (pv 7) pe_int (fun _ _ => rfl)) (fun _ _ => rfl)) rfl))
        (pss_one (ps_dput (hu_of hr) (pv 5) (pv 6) (pe_call G_op_word (hr.mono (by decide)) rfl T.g_op_word T.F_op_word.kp T.b_op_word .nil pass0 (pa_cons (pe_ix ix_tup (pv 7) pe_int (fun _ _ => rfl)) (pa_cons (pe_dget (hu_of hr) (pv 5) (pe_ix ix_tup (pv 7) pe_int (fun _ _ => rfl)) (fun _ _ => rfl)) (pa_cons (pe_dget (hu_of hr) (pv 5) (pe_ix ix_tup (pv 7) pe_int (fun _ _ => rfl)) (fun _ _ => rfl)) (pa_cons (pe_fldA (pv 0)) pa_nil))))) rfl))))))))
       (pss_one (ps_ret (pe_dget (hu_of hr) (pv 5) (pv 1) (fun _ _ => rfl))))))))), ?_⟩
  refine ⟨_, rfl, a, dx, _, rfl, ho, no_meth (by decide +kernel), _, rfl, a, l, d, n, ps, _, rfl, hp, rfl, ok1.wf, h60, fun i' ei _ t H1 ks hr s1 ht ht1 => ?_, fun z => absurd (good_of hi) z⟩
  have ei' : i = i' := by injection ei with ei; omega
  subst ei'
  have ksl : ks.length ≤ ps.length := nodup_lt (hr.asc.imp fun h => Nat.ne_of_lt h) fun k hk => by have := ((hr.mem k).mp hk).le ok1.wf; omega
  have sz : sizeLine = 16777216 := sizeLine_eq
  -- if not is_row(words): raise
  refine ⟨_, rfl, q, _, rfl, s1 _ _ hq, fun H2 s2 => ⟨_, rfl, iteN (by decide) ?_⟩⟩
  have s12 := s1.trans s2
  -- for i in self._gets(numbers): ..
  refine ⟨_, rfl, a, dx, _, rfl, s12 _ _ ho, no_meth (by decide +kernel), _, rfl, a, l, d, t, n, ps, ks, rfl, hp.news s12, s2 _ _ ht1, by omega, fun k hk => (by have := ((hr.mem k).mp hk).le ok1.wf; omega), fun u H3 ns hns s3 hu hu3 => ?_⟩
  have s13 := s12.trans s3
  refine ⟨u, rfl, ⟨_, SqT.of hu3⟩, ?_⟩
  refine for_tup (K := K) (a := u) (xs := ns.map V.int) (fun j σ' H4 => H4 = H3 ∧ ∃ v4 : Option V, σ' = [some (.ref a), some (.int (i : Nat)), some (.ref q), some (.ref t), v4, none, none, none]) ⟨rfl, none, rfl⟩ (fun j σ' H4 _ ⟨e, _⟩ => by rw [e]; exact SqT.of hu3) ?_ ?_
  · rintro j y σ' H4 hj ⟨rfl, v4, rfl⟩
    rw [List.getElem?_map] at hj
    obtain ⟨g, hgj, rfl⟩ := Option.map_eq_some_iff.mp hj
    obtain ⟨z, hz, hpz⟩ := hns g (List.mem_of_getElem? hgj)
    have g0 := (ok1.get _ _ hpz).1
    have gl := hg _ _ hpz
    obtain ⟨x, hx⟩ : ∃ x, ws[g.toNat]? = some x := ⟨_, List.getElem?_eq_getElem (by omega)⟩
    have hx2 := hw x (List.mem_of_getElem? hx)
    have hq4 := s13 _ _ hq
    have hat : atI (ws.map V.int) g = some (.int x) := at_of (j := g.toNat) (by omega) (by rw [List.getElem?_map, hx]; rfl)
    refine ⟨_, rfl, _, rfl, q, _, rfl, SqL.of hq4, _, _, rfl, rfl, _, rfl, iteN (dF (by rw [List.length_map]; omega)) ?_⟩
    refine ⟨_, rfl, _, rfl, q, _, _, _, rfl, rfl, SqL.of hq4, hat, _, rfl, rfl, _, rfl, iteN (by show ¬ (!true) = true; decide) ?_⟩
    refine ⟨_, rfl, _, rfl, q, _, _, _, rfl, rfl, SqL.of hq4, hat, _, _, rfl, rfl, _, rfl, iteN (dF (by omega)) ?_⟩
    refine ⟨_, rfl, _, rfl, q, _, _, _, rfl, rfl, SqL.of hq4, hat, _, rfl, a, T.C, dx, _, _, rfl, s13 _ _ ho, T.cl, T.nA__most, look_most _ _ _, _, _, rfl, rfl, _, rfl, iteN (dF (by omega)) ?_⟩
    exact ⟨rfl, _, rfl⟩
  rintro σ' H4 ⟨rfl, v4, rfl⟩
  -- found = {}
  intro D hD
  have hD0 : H D = none := s13.free hD
  have tD : t ≠ D := ne_of_none (s3 _ _ (s2 _ _ ht1)) hD
  have s4 : Same H (upd H4 D (.dK [])) := s13.trans (same_new hD)
  refine ⟨_, rfl, t, rfl, ⟨_, SqT.of (by rw [upd_ne tD]; exact s3 _ _ (s2 _ _ ht1))⟩, ?_⟩
  refine for_tup (K := K) (a := t) (xs := ks.map fun k => V.int (k : Nat)) (fun j σ' H5 => ∃ v6 v7 : Option V, σ' = [some (.ref a), some (.int (i : Nat)), some (.ref q), some (.ref t), v4, some (.ref D), v6, v7] ∧ Same H H5 ∧
    H5 t = some (.tup (ks.map fun k => V.int (k : Nat))) ∧ H5 D = some (.dK (dv (evAt n (envOf ws) ps) (ks.take j)))) ?_ ?_ ?_ ?_
  · exact ⟨none, none, rfl, s4, by rw [upd_ne tD]; exact s3 _ _ (s2 _ _ ht1), upd_same⟩
  · rintro j σ' H5 _ ⟨_, _, _, _, h, _⟩
    exact SqT.of h
  · rintro j y σ' H5 hj ⟨v6, v7, rfl, s5, hT5, hD5⟩
    rw [List.getElem?_map] at hj
    obtain ⟨k', hkj, rfl⟩ := Option.map_eq_some_iff.mp hj
    have hk0 := List.mem_of_getElem? hkj
    have hkr := (hr.mem k').mp hk0
    have hkn : k' < ps.length := by have := hkr.le ok1.wf; omega
    obtain ⟨p, hpk⟩ : ∃ p, ps[k']? = some p := ⟨_, List.getElem?_eq_getElem hkn⟩
    obtain ⟨t7, ht7, hT7⟩ := hit k' p hpk
    have ev := evAt_eq (w := n) (env := envOf ws) ok1.wf hpk
    have hz : (dv (evAt n (envOf ws) ps) (ks.take j)).length < sizeLine := by rw [dv_len, List.length_take]; omega
    have hT7' := s5 _ _ hT7
    have close : ∀ v6 v7 : Option V, ∃ v6' v7' : Option V, [some (V.ref a), some (.int (i : Nat)), some (.ref q), some (.ref t), v4, some (.ref D), v6, v7] = [some (V.ref a), some (.int (i : Nat)), some (.ref q), some (.ref t), v4, some (.ref D), v6', v7'] ∧
        Same H (upd H5 D (.dK (putK (dv (evAt n (envOf ws) ps) (ks.take j)) (Sum.inl ((k' : Nat) : Int)) (.int (evAt n (envOf ws) ps k'))))) ∧
        upd H5 D (.dK (putK (dv (evAt n (envOf ws) ps) (ks.take j)) (Sum.inl ((k' : Nat) : Int)) (.int (evAt n (envOf ws) ps k')))) t = some (.tup (ks.map fun k => V.int (k : Nat))) ∧
        upd H5 D (.dK (putK (dv (evAt n (envOf ws) ps) (ks.take j)) (Sum.inl ((k' : Nat) : Int)) (.int (evAt n (envOf ws) ps k')))) D = some (.dK (dv (evAt n (envOf ws) ps) (ks.take (j + 1)))) := by
      intro v6 v7
      refine ⟨v6, v7, rfl, fun b o e => ?_, ?_, ?_⟩
      · rw [upd_ne (ne_of_none e hD0)]; exact s5 _ _ e
      · rw [upd_ne tD]; exact hT5
      · rw [upd_same, dv_put (not_in_take hr.asc hkj), take_snoc hkj]
    have getf : ∀ z, z ∈ ks.take j → DGet H5 D (.int (z : Nat)) (some (.int (evAt n (envOf ws) ps z))) := fun z hz => by
      have dg := DGet.k (k := Sum.inl ((z : Nat) : Int)) hD5
      rw [valV_dv, if_pos hz] at dg
      exact dg
    refine ⟨_, rfl, a, T.C, dx, _, _, rfl, s5 _ _ ho, T.cl, T.nA__parts, look_parts _ _ _, _, rfl, l, xs, _, _, rfl, rfl, SqL.of (s5 _ _ hL), at_of rfl ht7, ?_⟩
    cases p with
    | num v =>
      refine ⟨_, rfl, t7, _, 0, _, rfl, rfl, SqT.of hT7', rfl, rfl, _, rfl, iteP (by decide) ?_⟩
      refine ⟨_, rfl, t7, _, 1, .int v, rfl, rfl, SqT.of hT7', rfl, _, rfl, _, rfl, D, _, rfl, DPut.k (k := Sum.inl ((k' : Nat) : Int)) hD5 hz, ?_⟩
      have ev : evAt n (envOf ws) ps k' = v := ev
      have := close (some (.int (k' : Nat))) (some (.ref t7))
      rw [ev] at this
      exact this
    | get g =>
      have gl := hg _ _ hpk
      have g0 := (ok1.get _ _ hpk).1
      obtain ⟨x, hx⟩ : ∃ x, ws[g.toNat]? = some x := ⟨_, List.getElem?_eq_getElem (by omega)⟩
      refine ⟨_, rfl, t7, _, 0, _, rfl, rfl, SqT.of hT7', rfl, rfl, _, rfl, iteN (by decide) ?_⟩
      refine ⟨_, rfl, t7, _, 0, _, rfl, rfl, SqT.of hT7', rfl, rfl, _, rfl, iteP (by decide) ?_⟩
      refine ⟨_, rfl, _, rfl, t7, _, 1, .int g, rfl, rfl, SqT.of hT7', rfl, q, _, _, .int x, rfl, rfl, SqL.of (s5 _ _ hq), at_of (j := g.toNat) (by omega) (by rw [List.getElem?_map, hx]; rfl), _, rfl, _, rfl, D, _, rfl, DPut.k (k := Sum.inl ((k' : Nat) : Int)) hD5 hz, ?_⟩
      have ev : evAt n (envOf ws) ps k' = x := by rw [ev]; show ws.getD g.toNat 0 = x; rw [List.getD_eq_getElem?_getD, hx]; rfl
      have := close (some (.int (k' : Nat))) (some (.ref t7))
      rw [ev] at this
      exact this
    | op o x y =>
      have wfp := ok1.wf _ _ _ _ hpk
      have hx' := asc_take hr.asc hkj ((hr.mem x).mpr (.left hkr hpk)) wfp.1
      have hy' := asc_take hr.asc hkj ((hr.mem y).mpr (.right hkr hpk)) wfp.2
      refine ⟨_, rfl, t7, _, 0, _, rfl, rfl, SqT.of hT7', rfl, rfl, _, rfl, iteN (op_num_f o) ?_⟩
      refine ⟨_, rfl, t7, _, 0, _, rfl, rfl, SqT.of hT7', rfl, rfl, _, rfl, iteN (op_get_f o) ?_⟩
      refine ⟨_, rfl, t7, _, 0, .str o.s, rfl, rfl, SqT.of hT7', rfl, _, rfl, _, rfl, t7, _, 1, .int (x : Nat), rfl, rfl, SqT.of hT7', rfl, D, _, rfl, getf x hx', _, rfl, _, rfl, t7, _, 2, .int (y : Nat), rfl, rfl, SqT.of hT7', rfl, D, _, rfl, getf y hy',
        _, rfl, a, T.C, dx, _, _, rfl, s5 _ _ ho, T.cl, T.nA_width, look_width _ _ _, o, _, _, n, rfl, hn, ?_⟩
      refine ⟨_, rfl, _, rfl, D, _, rfl, DPut.k (k := Sum.inl ((k' : Nat) : Int)) hD5 hz, ?_⟩
      have ev : evAt n (envOf ws) ps k' = opI n o (evAt n (envOf ws) ps x) (evAt n (envOf ws) ps y) := ev
      have := close (some (.int (k' : Nat))) (some (.ref t7))
      rw [ev] at this
      exact this
  · rintro σ' H5 ⟨v6, v7, rfl, s5, hT5, hD5⟩
    rw [List.length_map, List.take_length] at hD5
    have dg := DGet.k (k := Sum.inl ((i : Nat) : Int)) hD5
    rw [valV_dv, if_pos ((hr.mem i).mpr .self)] at dg
    exact ⟨_, rfl, _, rfl, D, _, rfl, dg, k H5 s5⟩
end
end My

/-! LA -/
namespace My
open PySem L2
local macro_rules | `(tactic| walk_at "side") => `(tactic| first | with_reducible rfl | assumption | rfl | decide | omega | exact cpow1 (by omega) (by omega) | exact cdiv (by omega) (by omega) | exact two_pos _ | exact SqL.of (by assumption) | exact SqT.of (by assumption) | exact TyX.base (TyOf.int _) | exact TyX.base (TyOf.bl _) | exact TyX.base TyOf.non | exact scal_opt _ _ | exact k_ii | exact k_bi | exact k_ni | exact k_ib | exact k_bb | exact TyX.base (TyOf.lst (by assumption)) | exact k_ll | exact k_lt)
local macro_rules | `(tactic| walk_at "p") => `(tactic| repeat (first | refine And.intro (by walk_at "side") ?_ | apply Exists.intro | refine iteN (by assumption) ?_ | refine iteP (by assumption) ?_ | refine iteN (by decide) ?_ | refine iteP (by decide) ?_))

/-- the draws at p, their numbers at q -/
def Dr (H : Hp) (p q : Addr) : Prop := ∃ (ns : List Int) (k : Nat), H p = some (.lst [.int k, .ref q]) ∧ H q = some (.lst (ns.map V.int)) ∧ ∀ x ∈ ns, 0 ≤ x
theorem Dr.ne {H : Hp} {p q : Addr} (h : Dr H p q) (hpq : p ≠ q) : True := trivial
theorem Dr.keep {S : Addr → Prop} {H H' : Hp} {p q : Addr} (h : Dr H p q) (k : Keep S H H') (hp : ¬ S p) (hq : ¬ S q) : Dr H' p q := by
  obtain ⟨ns, j, h1, h2, h3⟩ := h
  exact ⟨ns, j, k _ _ h1 hp, k _ _ h2 hq, h3⟩
theorem Dr.news {H H' : Hp} {p q : Addr} (h : Dr H p q) (s : Same H H') : Dr H' p q := h.keep (S := fun _ => False) (fun b o e _ => s b o e) id id
section
variable {P : Program} {w : World} {K : PySem.W.Frag} {mg : Str → Option Value} {base : Heap}
def sp_law_take (T : Txt K mg) : Sp := fun vs H Q _ => ∃ (p q : Addr) (m : Int), vs = [.ref p, .int m] ∧ Dr H p q ∧ p ≠ q ∧ 0 < m ∧ ∀ (H' : Hp) (v : Int), 0 ≤ v → v < m → Dr H' p q → (∀ b o, H b = some o → b ≠ p → H' b = some o) → Q (.int v) H'
theorem sp_law_take_len {T : Txt K mg} {vs H Q E} (h : sp_law_take T vs H Q E) : vs.length = 2 := by obtain ⟨_, _, _, rfl, _⟩ := h; rfl
theorem ok_law_take (T : Txt K mg) : FnOk P w K mg base CX0 1 T.f_law_take T.fd_law_take ["_law_draws_here", "_law_many"] (sp_law_take T) := by
  skip
  refine T.F_law_take.ok sc_law_take (fun vs H Q E h => sp_law_take_len h) (fun cdv A outer s H vs Q E hr h => ?_)
  obtain ⟨p, q, m, rfl, ⟨ns, j, h1, h2, h3⟩, hpq, hm, k⟩ := h
  refine ⟨_, (pss_cons (ps_set (i := 2) sc_law_take.nd rfl (Or.inl rfl) (pe_ix ix_list (pv 0) pe_int (fun _ _ => rfl)))
       (pss_cons (ps_if (pt_cmpR op_ge (pv 2) (pe_callB call_lenL (by rfl) T.n_len (by decide +kernel) (pa_cons (pe_ix ix_list (pv 0) pe_int (fun _ _ => rfl)) pa_nil)) (nomark _))
        (pss_one (ps_ret pe_int))
        pss_nil)
       (pss_cons (ps_asg (pe_op op_add (pv 2) pe_int) (pg_sub (pv 0) pe_int set_list))
       (pss_one (ps_ret (pe_op op_mod (pe_callTy call_intI (by rfl) T.n_int (by decide +kernel) (pa_cons (pe_ix ix_list (pe_ix ix_list (pv 0) pe_int (fun _ _ => rfl)) (pv 2) (fun _ _ => rfl)) pa_nil)) (pv 1))))))), ?_⟩
  refine ⟨_, rfl, p, _, 0, _, rfl, rfl, SqL.of h1, rfl, ?_⟩
  refine ⟨_, rfl, _, rfl, p, _, 1, _, rfl, rfl, SqL.of h1, rfl, q, _, rfl, SqL.of h2, _, _, rfl, rfl, _, rfl, ?_⟩
  by_cases hj : ns.length ≤ j
  · exact iteP (dT (by rw [List.length_map]; omega)) (k H 0 (by omega) hm ⟨ns, j, h1, h2, h3⟩ fun b o e _ => e)
  refine iteN (dF (by rw [List.length_map]; omega)) ?_
  refine ⟨_, rfl, _, _, rfl, rfl, _, rfl, p, _, 0, 0, rfl, rfl, h1, rfl, ?_⟩
  have h1' : upd H p (.lst [.int ((j : Int) + 1), .ref q]) p = some (.lst [.int ((j : Int) + 1), .ref q]) := upd_same
  have h2' : upd H p (.lst [.int ((j : Int) + 1), .ref q]) q = some (.lst (ns.map V.int)) := by rw [upd_ne hpq.symm]; exact h2
  obtain ⟨x, hx⟩ : ∃ x, ns[j]? = some x := ⟨_, List.getElem?_eq_getElem (by omega)⟩
  refine ⟨_, rfl, p, _, 1, _, rfl, rfl, SqL.of h1', rfl, _, rfl, q, _, _, .int x, rfl, rfl, SqL.of h2', at_of rfl (by rw [List.getElem?_map, hx]; rfl), x, rfl, _, rfl, _, _, rfl, rfl, hm, ?_⟩
  refine k _ (x % m) (Int.emod_nonneg _ (by omega)) (Int.emod_lt_of_pos _ hm) ⟨ns, j + 1, ?_, h2', h3⟩ fun b o e hb => by rw [upd_ne hb]; exact e
  exact upd_same.trans rfl
def sp_law_word (T : Txt K mg) : Sp := fun vs H Q _ => ∃ (p q : Addr) (n : Nat), vs = [.ref p, .int n] ∧ Dr H p q ∧ p ≠ q ∧ n ≤ 12 ∧ ∀ (H' : Hp) (v : Int), 0 ≤ v → v < 2 ^ n → Dr H' p q → (∀ b o, H b = some o → b ≠ p → H' b = some o) → Q (.int v) H'
theorem sp_law_word_len {T : Txt K mg} {vs H Q E} (h : sp_law_word T vs H Q E) : vs.length = 2 := by obtain ⟨_, _, _, rfl, _⟩ := h; rfl
theorem shl_mod {x : Int} {n : Nat} {C : Int → Prop} (h : ∀ v, 0 ≤ v → v < 2 ^ n → C v) : C (x % (1 * 2 ^ (n : Int).toNat)) := by
  rw [Int.one_mul, Int.toNat_natCast]
  exact h _ (Int.emod_nonneg _ (by have := pow_pos' n; omega)) (Int.emod_lt_of_pos _ (pow_pos' n))
theorem ok_law_word (T : Txt K mg) : FnOk P w K mg base CX0 2 T.f_law_word T.fd_law_word ["_law_draws_here", "_law_width"] (sp_law_word T) := by
  have G_law_take := ok_law_take (P := P) (w := w) (base := base) T
  refine T.F_law_word.ok sc_law_word (fun vs H Q E h => sp_law_word_len h) (fun cdv A outer s H vs Q E hr h => ?_)
  obtain ⟨p, q, n, rfl, hd, hpq, hn, k⟩ := h
  refine ⟨_, (pss_cons (ps_set (i := 2) sc_law_word.nd rfl (Or.inl rfl) (pe_call G_law_take hr rfl T.g_law_take T.F_law_take.kp T.b_law_take .nil pass0 (pa_cons (pv 0) (pa_cons pe_int pa_nil))))
       (pss_cons (ps_set (i := 3) sc_law_word.nd rfl (Or.inl rfl) (pe_call G_law_take hr rfl T.g_law_take T.F_law_take.kp T.b_law_take .nil pass0 (pa_cons (pv 0) (pa_cons pe_int pa_nil))))
       (pss_cons (ps_set (i := 4) sc_law_word.nd rfl (Or.inl rfl) (pe_call G_law_take hr rfl T.g_law_take T.F_law_take.kp T.b_law_take .nil pass0 (pa_cons (pv 0) (pa_cons pe_int pa_nil))))
       (pss_cons (ps_if (pt_cmpR op_eq (pv 4) pe_int (nomark _))
        (pss_one (ps_ret (pe_op op_mod (pe_callTy call_intI (by rfl) T.n_int (by decide +kernel) (pa_cons (pe_op op_sub (pe_op op_sub pe_int pe_int) (pe_op op_mod (pv 3) pe_int)) pa_nil)) (pe_op op_shl pe_int (pv 1)))))
        pss_nil)
       (pss_cons (ps_if (pt_cmpR op_eq (pv 4) pe_int (nomark _))
        (pss_one (ps_ret (pe_op op_mod (pe_callTy call_intI (by rfl) T.n_int (by decide +kernel) (pa_cons (pe_op op_mod (pv 3) pe_int) pa_nil)) (pe_op op_shl pe_int (pv 1)))))
        pss_nil)
       (pss_one (ps_ret (pe_op op_mod (pe_callTy call_intI (by rfl) T.n_int (by decide +kernel) (pa_cons (pe_op op_add (pe_op op_mul (pv 2) pe_int) (pv 3)) pa_nil)) (pe_op op_shl pe_int (pv 1)))))))))), ?_⟩
  refine ⟨_, rfl, p, q, _, rfl, hd, hpq, by decide, fun H1 x x0 x1 d1 k1 => ?_⟩
  refine ⟨_, rfl, p, q, _, rfl, d1, hpq, by decide, fun H2 y y0 y1 d2 k2 => ?_⟩
  refine ⟨_, rfl, p, q, _, rfl, d2, hpq, by decide, fun H3 z z0 z1 d3 k3 => ?_⟩
  have kk : ∀ v, 0 ≤ v → v < 2 ^ n → Q (.int v) H3 := fun v v0 v1 => k H3 v v0 v1 d3 fun b o e hb => k3 _ _ (k2 _ _ (k1 _ _ e hb) hb) hb
  refine ⟨_, rfl, rfl, _, rfl, ite2 (fun _ => ?_) fun _ => ?_⟩
  · refine ⟨_, _, rfl, rfl, _, rfl, _, _, rfl, rfl, by show (0 : Int) < 2; decide, _, _, rfl, rfl, _, rfl, _, rfl, _, _, rfl, rfl, cpow1 (by omega) (by omega), _, _, rfl, rfl, two_pos _, ?_⟩
    exact shl_mod (C := fun v => Q (.int v) H3) kk
  refine ⟨_, rfl, rfl, _, rfl, ite2 (fun _ => ?_) fun _ => ?_⟩
  · refine ⟨_, rfl, _, _, rfl, rfl, by show (0 : Int) < 3; decide, _, rfl, _, rfl, _, _, rfl, rfl, cpow1 (by omega) (by omega), _, _, rfl, rfl, two_pos _, ?_⟩
    exact shl_mod (C := fun v => Q (.int v) H3) kk
  · refine ⟨_, rfl, _, _, rfl, rfl, by right; decide, _, rfl, _, _, rfl, rfl, _, rfl, _, rfl, _, _, rfl, rfl, cpow1 (by omega) (by omega), _, _, rfl, rfl, two_pos _, ?_⟩
    exact shl_mod (C := fun v => Q (.int v) H3) kk
def opList : List V := [.str "add", .str "xor", .str "sub", .str "and", .str "same", .str "or", .str "less"]
def sp_law_ops (T : Txt K mg) : Sp := fun vs H Q _ => vs = [] ∧ ∀ p, H p = none → Q (.ref p) (upd H p (.lst opList))
theorem sp_law_ops_len {T : Txt K mg} {vs H Q E} (h : sp_law_ops T vs H Q E) : vs.length = 0 := by obtain ⟨rfl, _⟩ := h; rfl
theorem ok_law_ops (T : Txt K mg) : FnOk P w K mg base CX0 1 T.f_law_ops T.fd_law_ops [] (sp_law_ops T) := by
  skip
  refine T.F_law_ops.ok sc_law_ops (fun vs H Q E h => sp_law_ops_len h) (fun cdv A outer s H vs Q E hr h => ?_)
  obtain ⟨rfl, k⟩ := h
  refine ⟨_, (pss_one (ps_ret (pe_lst (pa_cons pe_str (pa_cons pe_str (pa_cons pe_str (pa_cons pe_str (pa_cons pe_str (pa_cons pe_str (pa_cons pe_str pa_nil)))))))))), ?_⟩
  exact ⟨by show 7 ≤ sizeLine; decide, k⟩
def sp_law_draws (T : Txt K mg) : Sp := fun vs H Q _ => ∃ (a : Addr) (xs : List Int), vs = [.ref a] ∧ SqL K H a (xs.map V.int) ∧ xs.length ≤ 63 ∧ ∀ (H' : Hp) (p q : Addr), Same H H' → H p = none → H q = none → p ≠ q → Dr H' p q → Q (.ref p) H'
theorem sp_law_draws_len {T : Txt K mg} {vs H Q E} (h : sp_law_draws T vs H Q E) : vs.length = 1 := by obtain ⟨_, _, rfl, _⟩ := h; rfl
/-- numbers so far -/
def NumsAt (H0 H : Hp) (N : Addr) (m : Nat) : Prop := Same H0 H ∧ ∃ ns : List Int, H N = some (.lst (ns.map V.int)) ∧ ns.length ≤ m ∧ ∀ x ∈ ns, 0 ≤ x
theorem NumsAt.more {H0 H : Hp} {N : Addr} {m m' : Nat} (h : NumsAt H0 H N m) (l : m ≤ m') : NumsAt H0 H N m' := by
  obtain ⟨s, ns, h1, h2, h3⟩ := h
  exact ⟨s, ns, h1, by omega, h3⟩
theorem NumsAt.push {H0 H : Hp} {N : Addr} {m : Nat} {x : Int} (h0 : H0 N = none) (h : NumsAt H0 H N m) (hx : 0 ≤ x) : ∃ xs : List V, H N = some (.lst xs) ∧ xs.length ≤ m ∧ NumsAt H0 (upd H N (.lst (xs ++ [.int x]))) N (m + 1) := by
  obtain ⟨s, ns, h1, h2, h3⟩ := h
  refine ⟨_, h1, by rw [List.length_map]; exact h2, fun b o e => ?_, ns ++ [x], by rw [upd_same, List.map_append]; rfl, by simp; omega, fun z hz => ?_⟩
  · rw [upd_ne (ne_of_none e h0)]; exact s _ _ e
  · rcases List.mem_append.mp hz with hz | hz
    · exact h3 z hz
    · simp at hz; subst hz; exact hx
theorem ok_law_draws (T : Txt K mg) : FnOk P w K mg base CX0 1 T.f_law_draws T.fd_law_draws ["_law_script"] (sp_law_draws T) := by
  skip
  refine T.F_law_draws.ok sc_law_draws (fun vs H Q E h => sp_law_draws_len h) (fun cdv A outer s H vs Q E hr h => ?_)
  obtain ⟨a, xs, rfl, hx, h63, k⟩ := h
  refine ⟨_, (pss_cons (ps_set (i := 1) sc_law_draws.nd rfl (Or.inl rfl) (pe_lst pa_nil))
       (pss_cons (ps_for PassesOwn.never rfl (pi_range1 (by rfl) T.n_range (pa_cons (pe_callB (call_min2 rfl) (by rfl) T.n_min (by decide +kernel) (pa_cons (pe_callB call_lenL (by rfl) T.n_len (by decide +kernel) (pa_cons (pv 0) pa_nil)) (pa_cons pe_int pa_nil))) pa_nil)) (pg_name (i := 2) sc_law_draws.nd rfl (Or.inl rfl))
        (pss_cons (ps_set (i := 3) sc_law_draws.nd rfl (Or.inl rfl) (pe_callTy call_intI (by rfl) T.n_int (by decide +kernel) (pa_cons (pe_ix ix_list (pv 0) (pv 2) (fun _ _ => rfl)) pa_nil)))
       (pss_cons (ps_set (i := 4) sc_law_draws.nd rfl (Or.inl rfl) pe_int)
       (Evl.pss_cut (ps_if (pt_cmpR op_lt (pv 3) pe_int (nomark _))
        (pss_cons (ps_set (i := 4) sc_law_draws.nd rfl (Or.inl rfl) pe_int)
       (pss_one (ps_set (i := 3) sc_law_draws.nd rfl (Or.inl rfl) (pe_un un_neg (pv 3)))))
        pss_nil)
       (pss_one (ps_if (pt_cmpR op_ge (pv 3) (pe_op op_pow pe_int pe_int) (nomark _))
        (pss_one (ps_for PassesOwn.never rfl (pi_range1 (by rfl) T.n_range (pa_cons pe_int pa_nil)) (pg_name (i := 5) sc_law_draws.nd rfl (Or.inl rfl))
        (pss_one (ps_if (pt_cmpR op_gt (pv 3) pe_int (nomark _))
        (pss_cons (ps_expr (pe_bm PySem.F.plainAttrs_list PySem.F.slot_list_append PySem.F.type_list_append mt_append (pv 1) (pa_cons (pe_op op_mod (pe_callTy call_intI (by rfl) T.n_int (by decide +kernel) (pa_cons (pv 3) pa_nil)) pe_int) pa_nil)))
       (pss_one (ps_set (i := 3) sc_law_draws.nd rfl (Or.inl rfl) (pe_op op_fdiv (pv 3) pe_int))))
        pss_nil))))
        (pss_cons (ps_set (i := 6) sc_law_draws.nd rfl (Or.inl rfl) (pe_op op_mod (pe_callTy call_intI (by rfl) T.n_int (by decide +kernel) (pa_cons (pe_op op_add (pe_op op_add (pe_op op_add (pe_op op_mul (pv 3) pe_int) (pe_op op_mul (pv 4) pe_int)) (pe_op op_mul (pv 2) pe_int)) pe_int) pa_nil)) pe_int))
       (pss_one (ps_for PassesOwn.never rfl (pi_range1 (by rfl) T.n_range (pa_cons pe_int pa_nil)) (pg_name (i := 5) sc_law_draws.nd rfl (Or.inl rfl))
        (pss_cons (ps_set (i := 6) sc_law_draws.nd rfl (Or.inl rfl) (pe_op op_mod (pe_callTy call_intI (by rfl) T.n_int (by decide +kernel) (pa_cons (pe_op op_add (pe_op op_add (pe_op op_mul (pv 6) pe_int) (pe_op op_fdiv (pv 6) pe_int)) (pv 5)) pa_nil)) pe_int))
       (pss_one (ps_expr (pe_bm PySem.F.plainAttrs_list PySem.F.slot_list_append PySem.F.type_list_append mt_append (pv 1) (pa_cons (pe_op op_fdiv (pv 6) pe_int) pa_nil))))))))))))))
       (pss_one (ps_ret (pe_lst (pa_cons pe_int (pa_cons (pv 1) pa_nil))))))), ?_⟩
  have sz : sizeLine = 16777216 := sizeLine_eq
  refine ⟨Nat.zero_le _, fun N hN => ?_⟩
  have sN := same_new (o := .lst []) hN
  have emin : (if (63 : Int) < ((xs.map V.int).length : Nat) then (63 : Int) else ((xs.map V.int).length : Nat)) = (xs.length : Nat) := by
    rw [List.length_map, if_neg (by omega)]
  refine ⟨_, rfl, a, _, rfl, sN.seq hx, _, _, rfl, ?_⟩
  rw [emin]
  refine ⟨_, rfl, by omega, by omega, ?_⟩
  refine for_range (lo := 0) (n := ((xs.length : Nat) : Int).toNat) (fun i σ' H1 => ∃ v2 v3 v4 v5 v6 : Option V, σ' = [some (.ref a), some (.ref N), v2, v3, v4, v5, v6] ∧ NumsAt H H1 N (45 * i)) ⟨none, none, none, none, none, rfl, sN, [], upd_same, Nat.le_refl _, by simp⟩ ?_ ?_
  · rintro i σ' H1 hi ⟨v2, v3, v4, v5, v6, rfl, hn⟩
    rw [Int.toNat_natCast] at hi
    obtain ⟨x, hxi⟩ : ∃ x, xs[i]? = some x := ⟨_, List.getElem?_eq_getElem hi⟩
    refine ⟨_, rfl, _, rfl, a, _, _, .int x, rfl, rfl, hn.1.seq hx, at_of (j := i) (by omega) (by rw [List.getElem?_map, hxi]; rfl), x, rfl, ?_⟩
    -- the sign
    refine ⟨fun σ' H2 => H2 = H1 ∧ ∃ c sg : Int, σ' = [some (.ref a), some (.ref N), some (.int (0 + i)), some (.int c), some (.int sg), v5, v6] ∧ 0 ≤ c ∧ 0 ≤ sg ∧ sg ≤ 1, ?_, ?_⟩
    · refine ⟨_, rfl, _, _, rfl, rfl, _, rfl, ite2d (fun hc => ?_) fun hc => ?_⟩
      · exact ⟨_, rfl, _, rfl, rfl, -x, 1, rfl, by omega, by omega, by omega⟩
      · exact ⟨rfl, x, 0, rfl, by omega, by omega, by omega⟩
    rintro σ' H2 ⟨rfl, c, sg, rfl, c0, g0, g1⟩
    refine ⟨_, rfl, _, _, rfl, rfl, cpow10, _, _, rfl, rfl, _, rfl, ite2d (fun hc => ?_) fun hc => ?_⟩
    · -- a great number: its digits
      refine ⟨45, rfl, by decide, by decide, ?_⟩
      refine for_range (lo := 0) (n := (45 : Int).toNat) (fun t σ' H3 => ∃ (c : Int) (v5 : Option V), σ' = [some (.ref a), some (.ref N), some (.int (0 + i)), some (.int c), some (.int sg), v5, v6] ∧ 0 ≤ c ∧ NumsAt H H3 N (45 * i + t)) ⟨c, v5, rfl, c0, hn⟩ ?_ ?_
      · rintro t σ' H3 ht ⟨c, v5, rfl, c0, hn⟩
        refine ⟨_, rfl, _, _, rfl, rfl, _, rfl, ite2d (fun hc => ?_) fun hc => ?_⟩
        · obtain ⟨ys, hy, hyl, hn2⟩ := hn.push (x := c % 30) hN (Int.emod_nonneg _ (by decide))
          have ht : t < 45 := ht
          refine ⟨_, rfl, .inl ⟨rfl, _, SqL.of hy⟩, _, rfl, _, rfl, _, _, rfl, rfl, by show (0 : Int) < 30; decide, N, _, _, rfl, rfl, hy, by omega, ?_⟩
          refine ⟨_, rfl, _, _, rfl, rfl, ⟨by decide, by decide⟩, ?_⟩
          exact ⟨_, _, rfl, Int.ediv_nonneg c0 (by decide), hn2⟩
        · exact ⟨c, _, rfl, c0, hn.more (by omega)⟩
      · rintro σ' H3 ⟨c, v5, rfl, c0, hn⟩
        exact ⟨_, _, _, _, _, rfl, hn.more (by show 45 * i + 45 ≤ 45 * (i + 1); omega)⟩
    · have hc : c < 1000000000000000000 := by
        have : ¬ (10 : Int) ^ (18 : Int).toNat ≤ c := hc
        have e : (10 : Int) ^ (18 : Int).toNat = 1000000000000000000 := by decide
        omega
      refine ⟨_, rfl, _, _, rfl, rfl, Or.inr (by constructor <;> decide), _, rfl, _, _, rfl, rfl, Or.inr (by constructor <;> decide), _, _, rfl, rfl, _, rfl, _, _, rfl, rfl, Or.inr (by constructor <;> decide), _, _, rfl, rfl, _, _, rfl, rfl, _, rfl, _, _, rfl, rfl, by show (0 : Int) < 2147483647; decide, ?_⟩
      have m0 : 0 ≤ (c * 16807 + sg * 911 + (0 + (i : Int)) * 7919 + 13) % 2147483647 ∧ (c * 16807 + sg * 911 + (0 + (i : Int)) * 7919 + 13) % 2147483647 < 2147483647 := ⟨Int.emod_nonneg _ (by decide), Int.emod_lt_of_pos _ (by decide)⟩
      refine ⟨6, rfl, by decide, by decide, ?_⟩
      refine for_range (lo := 0) (n := (6 : Int).toNat) (fun t σ' H3 => ∃ (mx : Int) (v5 : Option V), σ' = [some (.ref a), some (.ref N), some (.int (0 + i)), some (.int c), some (.int sg), v5, some (.int mx)] ∧ 0 ≤ mx ∧ mx < 2147483647 ∧ NumsAt H H3 N (45 * i + t)) ⟨_, v5, rfl, m0.1, m0.2, hn⟩ ?_ ?_
      · rintro t σ' H3 ht ⟨mx, v5, rfl, m0, m1, hn⟩
        have ht : t < 6 := ht
        refine ⟨_, rfl, _, _, rfl, rfl, Or.inr (by constructor <;> decide), _, rfl, _, _, rfl, rfl, ⟨by decide, by decide⟩, _, _, rfl, rfl, _, rfl, _, _, rfl, rfl, _, rfl, _, _, rfl, rfl, by show (0 : Int) < 2147483647; decide, ?_⟩
        have m2 : 0 ≤ (mx * 69621 + mx / 1000 + (0 + (t : Int))) % 2147483647 ∧ (mx * 69621 + mx / 1000 + (0 + (t : Int))) % 2147483647 < 2147483647 := ⟨Int.emod_nonneg _ (by decide), Int.emod_lt_of_pos _ (by decide)⟩
        obtain ⟨ys, hy, hyl, hn2⟩ := hn.push (x := (mx * 69621 + mx / 1000 + (0 + (t : Int))) % 2147483647 / 8) hN (Int.ediv_nonneg m2.1 (by decide))
        refine ⟨_, rfl, .inl ⟨rfl, _, SqL.of hy⟩, _, rfl, _, _, rfl, rfl, ⟨by decide, by decide⟩, N, _, _, rfl, rfl, hy, by omega, ?_⟩
        exact ⟨_, _, rfl, m2.1, m2.2, hn2⟩
      · rintro σ' H3 ⟨mx, v5, rfl, m0, m1, hn⟩
        exact ⟨_, _, _, _, _, rfl, hn.more (by show 45 * i + 6 ≤ 45 * (i + 1); omega)⟩
  · rintro σ' H1 ⟨v2, v3, v4, v5, v6, rfl, hn⟩
    obtain ⟨s1, ns, h1, _, h3⟩ := hn
    refine ⟨_, rfl, by show 2 ≤ sizeLine; decide, fun p hp => ?_⟩
    have pN : N ≠ p := ne_of_none h1 hp
    exact k _ p N (s1.trans (same_new hp)) (s1.free hp) hN pN.symm ⟨ns, 0, upd_same, by rw [upd_ne pN]; exact h1, h3⟩
end
end My

/-! LB -/
namespace My
open PySem L2
local macro_rules | `(tactic| walk_at "side") => `(tactic| first | with_reducible rfl | assumption | rfl | decide | omega | exact cpow1 (by omega) (by omega) | exact cdiv (by omega) (by omega) | exact two_pos _ | exact SqL.of (by assumption) | exact SqT.of (by assumption) | exact TyX.base (TyOf.int _) | exact TyX.base (TyOf.bl _) | exact TyX.base TyOf.non | exact scal_opt _ _ | exact k_ii | exact k_bi | exact k_ni | exact k_ib | exact k_bb | exact TyX.base (TyOf.lst (by assumption)) | exact k_ll | exact k_lt)
local macro_rules | `(tactic| walk_at "p") => `(tactic| repeat (first | refine And.intro (by walk_at "side") ?_ | apply Exists.intro | refine iteN (by assumption) ?_ | refine iteP (by assumption) ?_ | refine iteN (by decide) ?_ | refine iteP (by decide) ?_))

section
variable {P : Program} {w : World} {K : PySem.W.Frag} {mg : Str → Option Value} {base : Heap}
/-- what a call that keeps parts in the list at l leaves -/
def LMade (H : Hp) (l : Addr) (r : Nat × List Part) (Q : VK) : Prop := ∀ H' : Hp, LAt H' l r.2 → (∀ b o, H b = some o → b ≠ l → H' b = some o) → Q (.int (r.1 : Nat)) H'
theorem LMade.news {H H' : Hp} {l : Addr} {r : Nat × List Part} {Q : VK} (h : LMade H l r Q) (s : Same H H') : LMade H' l r Q := fun H2 hp k => h H2 hp fun b o e h1 => k b o (s b o e) h1
theorem LAt.news {H H' : Hp} {l : Addr} {ps : List Part} (h : LAt H l ps) (s : Same H H') : LAt H' l ps := h.keep (S := fun _ => False) (fun b o e _ => s b o e) id fun _ _ _ => id
def sp_law_keep (T : Txt K mg) : Sp := fun vs H Q _ => ∃ (l t : Addr) (ps : List Part) (p : Part), vs = [.ref l, .ref t] ∧ LAt H l ps ∧ H t = some (.tup p.vals) ∧ ps.length < 1000 ∧ LMade H l (mk ps p) Q
theorem sp_law_keep_len {T : Txt K mg} {vs H Q E} (h : sp_law_keep T vs H Q E) : vs.length = 2 := by obtain ⟨_, _, _, _, rfl, _⟩ := h; rfl
theorem ok_law_keep (T : Txt K mg) : FnOk P w K mg base CX0 1 T.f_law_keep T.fd_law_keep ["_law_parts", "_law_part_here"] (sp_law_keep T) := by
  skip
  refine T.F_law_keep.ok sc_law_keep (fun vs H Q E h => sp_law_keep_len h) (fun cdv A outer s H vs Q E hr h => ?_)
  obtain ⟨l, t, ps, p, rfl, hl, ht, hn, k⟩ := h
  obtain ⟨xs, hL, ex, hit⟩ := hl.item
  have tl : t ≠ l := ne_of ht hL (by intro z; cases z)
  have sz : sizeLine = 16777216 := sizeLine_eq
  refine ⟨_, (pss_cons (ps_for PassesOwn.never rfl (pi_range1 (by rfl) T.n_range (pa_cons (pe_callB call_lenL (by rfl) T.n_len (by decide +kernel) (pa_cons (pv 0) pa_nil)) pa_nil)) (pg_name (i := 2) sc_law_keep.nd rfl (Or.inl rfl))
        (pss_one (ps_if (pt_cmpR (op_eqD hr.units) (pe_ix ix_list (pv 0) (pv 2) (fun _ _ => rfl)) (pv 1) (nomark _))
        (pss_one (ps_ret (pv 2)))
        pss_nil)))
       (pss_cons (ps_expr (pe_bm PySem.F.plainAttrs_list PySem.F.slot_list_append PySem.F.type_list_append mt_append (pv 0) (pa_cons (pv 1) pa_nil)))
       (pss_one (ps_ret (pe_op op_sub (pe_callB call_lenL (by rfl) T.n_len (by decide +kernel) (pa_cons (pv 0) pa_nil)) pe_int))))), ?_⟩
  refine ⟨_, rfl, l, xs, rfl, SqL.of hL, _, rfl, by omega, by omega, ?_⟩
  refine for_range (lo := 0) (n := ((xs.length : Nat) : Int).toNat) (fun i σ' H' => H' = H ∧ (∀ j < i, ps[j]? ≠ some p) ∧ ∃ v2 : Option V, σ' = [some (.ref l), some (.ref t), v2]) ⟨rfl, fun j hj => absurd hj (Nat.not_lt_zero _), none, rfl⟩ ?_ ?_
  · rintro i σ' H' hi ⟨rfl, hno, v2, rfl⟩
    rw [Int.toNat_natCast, ex] at hi
    obtain ⟨q, hq⟩ : ∃ q, ps[i]? = some q := ⟨_, List.getElem?_eq_getElem hi⟩
    obtain ⟨u, hu, hU⟩ := hit i q hq
    refine ⟨_, rfl, _, rfl, l, xs, _, _, rfl, rfl, SqL.of hL, at_of (j := i) (by omega) hu, _, rfl, eqT hU ht ⟨_, rfl, ite2d (fun e => ?_) fun e => ?_⟩⟩
    · subst e
      have hm : q ∈ ps := List.mem_of_getElem? hq
      have hidx : ps.idxOf q = i := by
        have h1 : ps.idxOf q < ps.length := List.idxOf_lt_length_iff.mpr hm
        have h2 : ps[ps.idxOf q]? = some q := by rw [List.getElem?_eq_getElem h1, List.getElem_idxOf]
        have h3 : ps.idxOf q ≤ i := by
          exact idxOf_le hq
        by_cases h4 : ps.idxOf q < i
        · exact absurd h2 (hno _ h4)
        · omega
      have hk : mk ps q = (i, ps) := by unfold mk; rw [if_pos hm, hidx]
      rw [hk] at k
      refine ⟨_, rfl, ?_⟩
      have := k H' hl fun b o e _ => e
      rw [show (0 : Int) + (i : Nat) = (i : Nat) by omega]
      exact this
    · exact ⟨rfl, fun j hj => by
        by_cases hji : j = i
        · subst hji; rw [hq]; exact fun z => e (Option.some.inj z)
        · exact hno j (by omega), _, rfl⟩
  · rintro σ' H' ⟨rfl, hno, v2, rfl⟩
    rw [Int.toNat_natCast, ex] at hno
    have hm : p ∉ ps := fun hm => by
      obtain ⟨j, hj, e⟩ := List.getElem_of_mem hm
      exact hno j hj (by rw [List.getElem?_eq_getElem hj, e])
    have hk : mk ps p = (ps.length, ps ++ [p]) := if_neg hm
    rw [hk] at k
    refine ⟨_, rfl, Or.inl ⟨rfl, _, SqL.of hL⟩, _, rfl, l, xs, _, rfl, rfl, hL, by omega, ?_⟩
    refine ⟨_, rfl, l, _, rfl, SqL.of upd_same, _, _, rfl, rfl, ?_⟩
    have := k (upd H' l (.lst (xs ++ [.ref t]))) (hl.push hL (fun b ys e => by rw [upd_ne (ne_of e hL (by intro z; cases z))]; exact e) upd_same (by rw [upd_ne tl]; exact ht)) fun b o e hb => by rw [upd_ne hb]; exact e
    have e2 : (((xs ++ [V.ref t]).length : Nat) : Int) - 1 = (ps.length : Nat) := by rw [List.length_append, List.length_singleton]; omega
    show Q (V.int ((((xs ++ [V.ref t]).length : Nat) : Int) - 1)) _
    rw [e2]
    exact this
/-- what short promises: -1 where nothing is shortened -/
def sp_law_short (T : Txt K mg) : Sp := fun vs H Q _ => ∃ (l : Addr) (ps : List Part) (n : Nat) (o : Op) (a b : Nat), vs = [.ref l, .int n, .str o.s, .int a, .int b] ∧ LAt H l ps ∧ ps.length < 1000 ∧ n ≤ 12 ∧ a < ps.length ∧ b < ps.length ∧
  (shortR o (wordOf ps a) (wordOf ps b) (decide (a = b)) (2 ^ n - 1) = .no → ∀ H', Same H H' → Q (.int (-1)) H') ∧
  (shortR o (wordOf ps a) (wordOf ps b) (decide (a = b)) (2 ^ n - 1) ≠ .no → LMade H l (fin ps o a b (shortR o (wordOf ps a) (wordOf ps b) (decide (a = b)) (2 ^ n - 1))) Q)
theorem sp_law_short_len {T : Txt K mg} {vs H Q E} (h : sp_law_short T vs H Q E) : vs.length = 5 := by obtain ⟨_, _, _, _, _, _, rfl, _⟩ := h; rfl
/-- a name among written ones -/
theorem in_mark {x : V} {xs : List V} (h : inV x xs = true) : (if false = true then !inV x xs else inV x xs) = true := by rw [if_neg Bool.false_ne_true]; exact h
theorem nin_mark {x : V} {xs : List V} (h : inV x xs = false) : ¬ (if false = true then !inV x xs else inV x xs) = true := by rw [if_neg Bool.false_ne_true, h]; decide
def tailR (o : Op) (fa fb : Option Int) (eq : Bool) (most : Int) : Sh :=
  if o = .and then (if fa = some most then .other else if fb = some most ∨ eq = true then .one else .no) else if eq = true then shTwice o else .no
theorem ok_law_short (T : Txt K mg) : FnOk P w K mg base CX0 2 T.f_law_short T.fd_law_short ["_law_parts", "_law_width", "_law_name", "_law_one", "_law_other"] (sp_law_short T) := by
  have G_law_keep := ok_law_keep (P := P) (w := w) (base := base) T
  refine T.F_law_short.ok sc_law_short (fun vs H Q E h => sp_law_short_len h) (fun cdv A outer s H vs Q E hr h => ?_)
  obtain ⟨l, ps, n, o, a, b, rfl, hl, hn, hw, ha, hb, k1, k2⟩ := h
  obtain ⟨xs, hL, ex, hit⟩ := hl.item
  obtain ⟨pa, hpa⟩ : ∃ p, ps[a]? = some p := ⟨_, List.getElem?_eq_getElem ha⟩
  obtain ⟨pb, hpb⟩ : ∃ p, ps[b]? = some p := ⟨_, List.getElem?_eq_getElem hb⟩
  obtain ⟨ta, hta, hTa⟩ := hit a pa hpa
  obtain ⟨tb, htb, hTb⟩ := hit b pb hpb
  rw [wordOf_at hpa, wordOf_at hpb] at k1 k2
  generalize hs : shortR o pa.word pb.word (decide (a = b)) (2 ^ n - 1) = s at k1 k2
  refine ⟨_, (pss_cons (ps_set (i := 5) sc_law_short.nd rfl (Or.inl rfl) (pe_tup (pa_cons pe_str (pa_cons pe_int pa_nil))))
       (Evl.pss_cut (ps_if (PW.pt (pw_or (pt_cmpR (op_eqD hr.units) (pe_ix ix_list (pv 0) (pv 3) (fun _ _ => rfl)) (pv 5) (nomark _)) (pw_or1 (pt_cmpR (op_eqD hr.units) (pe_ix ix_list (pv 0) (pv 4) (fun _ _ => rfl)) (pv 5) (nomark _)))))
        (pss_cons (ps_if (pt_cmpR op_in_seq (pv 2) (pe_tup (pa_cons pe_str (pa_cons pe_str (pa_cons pe_str pa_nil)))) (by rfl))
        (pss_cons (ps_if (pt_cmpR (op_eqD hr.units) (pe_ix ix_list (pv 0) (pv 3) (fun _ _ => rfl)) (pv 5) (nomark _))
        (pss_one (ps_ret (pv 4)))
        pss_nil)
       (pss_one (ps_ret (pv 3))))
        pss_nil)
       (pss_cons (ps_if (pt_cmpR op_eq (pv 2) pe_str (nomark _))
        (pss_one (ps_ret (pe_call G_law_keep hr rfl T.g_law_keep T.F_law_keep.kp T.b_law_keep .nil pass0 (pa_cons (pv 0) (pa_cons (pv 5) pa_nil)))))
        pss_nil)
       (pss_cons (ps_if (PW.pt (pw_and (pt_cmpR (op_eqD hr.units) (pe_ix ix_list (pv 0) (pv 4) (fun _ _ => rfl)) (pv 5) (nomark _)) (pw_and1 (pt_cmpR op_eq (pv 2) pe_str (nomark _)))))
        (pss_one (ps_ret (pv 3)))
        pss_nil)
       (pss_one (ps_if (PW.pt (pw_and (pt_cmpR (op_eqD hr.units) (pe_ix ix_list (pv 0) (pv 4) (fun _ _ => rfl)) (pv 5) (nomark _)) (pw_and1 (pt_cmpR op_eq (pv 2) pe_str (nomark _)))))
        (pss_one (ps_ret (pe_call G_law_keep hr rfl T.g_law_keep T.F_law_keep.kp T.b_law_keep .nil pass0 (pa_cons (pv 0) (pa_cons (pv 5) pa_nil)))))
        pss_nil)))))
        pss_nil)
       (Evl.pss_cut (ps_if (PW.pt (pw_and (pt_cmpR op_eq (pv 2) pe_str (nomark _)) (pw_and1 (pt_cmpR (op_eqD hr.units) (pe_ix ix_list (pv 0) (pv 3) (fun _ _ => rfl)) (pe_tup (pa_cons pe_str (pa_cons (pe_op op_sub (pe_op op_shl pe_int (pv 1)) pe_int) pa_nil))) (nomark _)))))
        (pss_one (ps_ret (pv 4)))
        pss_nil)
       (Evl.pss_cut (ps_if (PW.pt (pw_and (pt_cmpR op_eq (pv 2) pe_str (nomark _)) (pw_and1 (pt_cmpR (op_eqD hr.units) (pe_ix ix_list (pv 0) (pv 4) (fun _ _ => rfl)) (pe_tup (pa_cons pe_str (pa_cons (pe_op op_sub (pe_op op_shl pe_int (pv 1)) pe_int) pa_nil))) (nomark _)))))
        (pss_one (ps_ret (pv 3)))
        pss_nil)
       (pss_cons (ps_if (PW.pt (pw_and (pt_cmpR op_eq (pv 3) (pv 4) (nomark _)) (pw_and1 (pt_cmpR op_in_seq (pv 2) (pe_tup (pa_cons pe_str (pa_cons pe_str (pa_cons pe_str pa_nil)))) (by rfl)))))
        (pss_one (ps_ret (pe_call G_law_keep hr rfl T.g_law_keep T.F_law_keep.kp T.b_law_keep .nil pass0 (pa_cons (pv 0) (pa_cons (pv 5) pa_nil)))))
        pss_nil)
       (pss_cons (ps_if (PW.pt (pw_and (pt_cmpR op_eq (pv 3) (pv 4) (nomark _)) (pw_and1 (pt_cmpR op_in_seq (pv 2) (pe_tup (pa_cons pe_str (pa_cons pe_str pa_nil))) (by rfl)))))
        (pss_one (ps_ret (pv 3)))
        pss_nil)
       (pss_cons (ps_if (PW.pt (pw_and (pt_cmpR op_eq (pv 3) (pv 4) (nomark _)) (pw_and1 (pt_cmpR op_eq (pv 2) pe_str (nomark _)))))
        (pss_one (ps_ret (pe_call G_law_keep hr rfl T.g_law_keep T.F_law_keep.kp T.b_law_keep .nil pass0 (pa_cons (pv 0) (pa_cons (pe_tup (pa_cons pe_str (pa_cons pe_int pa_nil))) pa_nil)))))
        pss_nil)
       (pss_one (ps_ret (pe_un un_neg pe_int)))))))))), ?_⟩
  -- _law_zero = ('num', 0)
  refine ⟨by show 2 ≤ sizeLine; decide, fun z hz => ?_⟩
  have s1 := same_new (o := .tup [.str "num", .int 0]) hz
  have hz1 : upd H z (.tup [.str "num", .int 0]) z = some (.tup (Part.num 0).vals) := upd_same
  generalize hH1 : upd H z (.tup [.str "num", .int 0]) = H1 at *
  clear hH1
  have hL1 := s1 _ _ hL
  have hl1 := hl.news s1
  have ret1 : ∀ r : Sh, shortR o pa.word pb.word (decide (a = b)) (2 ^ n - 1) = r → r ≠ .no → LMade H1 l (fin ps o a b r) Q := fun r e ne => by
    rw [hs] at e; subst e; exact (k2 ne).news s1
  have eA := word_iff pa 0
  have eB := word_iff pb 0
  have hTa1 := s1 _ _ hTa
  have hTb1 := s1 _ _ hTb
  refine ⟨fun σ' H2 => Same H1 H2 ∧ σ' = [some (.ref l), some (.int (n : Nat)), some (.str o.s), some (.int (a : Nat)), some (.int (b : Nat)), some (.ref z)] ∧ shortR o pa.word pb.word (decide (a = b)) (2 ^ n - 1) = tailR o pa.word pb.word (decide (a = b)) (2 ^ n - 1) ∧
    (o = .and → ¬ pa = .num 0 ∧ ¬ pb = .num 0), ?_, ?_⟩
  · by_cases h : pa = .num 0 ∨ pb = .num 0
    · refine ⟨_, rfl, _, rfl, l, xs, _, _, rfl, rfl, SqL.of hL1, at_of rfl hta, _, rfl, eqT hTa1 hz1 ⟨_, rfl, ite2d (fun hA => iteP rfl ?_) fun hA => ?_⟩⟩
      rotate_left
      refine ⟨_, rfl, _, rfl, l, xs, _, _, rfl, rfl, SqL.of hL1, at_of rfl htb, _, rfl, eqT hTb1 hz1 ⟨_, rfl, iteP (dT (h.resolve_left hA)) ?_⟩⟩
      all_goals
        refine ⟨_, rfl, by show 3 ≤ sizeLine; decide, fun t ht => ?_⟩
        refine ⟨t, _, rfl, Or.inr (SqT.of upd_same), rfl, rfl, _, rfl, ?_⟩
        have s2 := same_new (o := .tup [.str "add", .str "or", .str "xor"]) ht
        generalize upd H1 t (.tup [.str "add", .str "or", .str "xor"]) = H2 at *
        have hL2 := s2 _ _ hL1
        have hl2 := hl1.news s2
        have hz2 := s2 _ _ hz1
        have hTa2 := s2 _ _ hTa1
        have hTb2 := s2 _ _ hTb1
        have ret2 : ∀ r : Sh, shortR o pa.word pb.word (decide (a = b)) (2 ^ n - 1) = r → r ≠ .no → LMade H2 l (fin ps o a b r) Q := fun r e ne => (ret1 r e ne).news s2
        have keep2 : LMade H2 l (mk ps (.num 0)) Q → sp_law_keep T [.ref l, .ref z] H2 Q E0 := fun m => ⟨l, z, ps, .num 0, rfl, hl2, hz2, hn, m⟩
        have done2 : shortR o pa.word pb.word (decide (a = b)) (2 ^ n - 1) = tailR o pa.word pb.word (decide (a = b)) (2 ^ n - 1) → (o = .and → False) → Same H1 H2 ∧ [some (V.ref l), some (.int (n : Nat)), some (.str o.s), some (.int (a : Nat)), some (.int (b : Nat)), some (.ref z)] = [some (.ref l), some (.int (n : Nat)), some (.str o.s), some (.int (a : Nat)), some (.int (b : Nat)), some (.ref z)] ∧ shortR o pa.word pb.word (decide (a = b)) (2 ^ n - 1) = tailR o pa.word pb.word (decide (a = b)) (2 ^ n - 1) ∧ (o = .and → ¬ pa = .num 0 ∧ ¬ pb = .num 0) :=
          fun e ne => ⟨s2, rfl, e, fun z => (ne z).elim⟩
        cases o
        case add =>
          refine iteP (in_mark (by decide +kernel)) ⟨_, rfl, _, rfl, l, xs, _, _, rfl, rfl, SqL.of hL2, at_of rfl hta, _, rfl, eqT hTa2 hz2 ⟨_, rfl, ite2d (fun e => ?_) fun e => ?_⟩⟩
          · exact ⟨_, rfl, ret2 .other (by simp [shortR, eA.mpr e]) (by decide) H2 hl2 fun b o e _ => e⟩
          · exact ⟨_, rfl, ret2 .one (by simp [shortR, eA, e, eB.mpr (h.resolve_left e)]) (by decide) H2 hl2 fun b o e _ => e⟩
        case or =>
          refine iteP (in_mark (by decide +kernel)) ⟨_, rfl, _, rfl, l, xs, _, _, rfl, rfl, SqL.of hL2, at_of rfl hta, _, rfl, eqT hTa2 hz2 ⟨_, rfl, ite2d (fun e => ?_) fun e => ?_⟩⟩
          · exact ⟨_, rfl, ret2 .other (by simp [shortR, eA.mpr e]) (by decide) H2 hl2 fun b o e _ => e⟩
          · exact ⟨_, rfl, ret2 .one (by simp [shortR, eA, e, eB.mpr (h.resolve_left e)]) (by decide) H2 hl2 fun b o e _ => e⟩
        case xor =>
          refine iteP (in_mark (by decide +kernel)) ⟨_, rfl, _, rfl, l, xs, _, _, rfl, rfl, SqL.of hL2, at_of rfl hta, _, rfl, eqT hTa2 hz2 ⟨_, rfl, ite2d (fun e => ?_) fun e => ?_⟩⟩
          · exact ⟨_, rfl, ret2 .other (by simp [shortR, eA.mpr e]) (by decide) H2 hl2 fun b o e _ => e⟩
          · exact ⟨_, rfl, ret2 .one (by simp [shortR, eA, e, eB.mpr (h.resolve_left e)]) (by decide) H2 hl2 fun b o e _ => e⟩
        case and =>
          refine iteN (nin_mark (by decide +kernel)) ⟨_, rfl, rfl, _, rfl, iteP (by decide +kernel) ⟨_, rfl, _, rfl, keep2 (ret2 .zero ?_ (by decide))⟩⟩
          rcases h with h | h
          · simp [shortR, shAnd, eA.mpr h]
          · simp [shortR, shAnd, eB.mpr h]
        case sub =>
          refine iteN (nin_mark (by decide +kernel)) ⟨_, rfl, rfl, _, rfl, iteN (by decide +kernel) ⟨_, rfl, _, rfl, l, xs, _, _, rfl, rfl, SqL.of hL2, at_of rfl htb, _, rfl, eqT hTb2 hz2 ⟨_, rfl, ite2d (fun e => ?_) fun e => ?_⟩⟩⟩
          · exact ⟨_, rfl, rfl, _, rfl, iteP (by decide +kernel) ⟨_, rfl, ret2 .one (by simp [shortR, eB.mpr e]) (by decide) H2 hl2 fun b o e _ => e⟩⟩
          · refine iteN (by decide) ⟨_, rfl, _, rfl, l, xs, _, _, rfl, rfl, SqL.of hL2, at_of rfl htb, _, rfl, eqT hTb2 hz2 ⟨_, rfl, iteN (dF e) (iteN (by decide) ?_)⟩⟩
            exact done2 (by simp [shortR, tailR, eB, e]) (by decide)
        case less =>
          refine iteN (nin_mark (by decide +kernel)) ⟨_, rfl, rfl, _, rfl, iteN (by decide +kernel) ⟨_, rfl, _, rfl, l, xs, _, _, rfl, rfl, SqL.of hL2, at_of rfl htb, _, rfl, eqT hTb2 hz2 ⟨_, rfl, ite2d (fun e => ?_) fun e => ?_⟩⟩⟩
          · refine ⟨_, rfl, rfl, _, rfl, iteN (by decide +kernel) ⟨_, rfl, _, rfl, l, xs, _, _, rfl, rfl, SqL.of hL2, at_of rfl htb, _, rfl, eqT hTb2 hz2 ⟨_, rfl, iteP (dT e) ⟨_, rfl, rfl, _, rfl, iteP (by decide +kernel) ?_⟩⟩⟩⟩
            exact ⟨_, rfl, _, rfl, keep2 (ret2 .zero (by simp [shortR, eB.mpr e]) (by decide))⟩
          · refine iteN (by decide) ⟨_, rfl, _, rfl, l, xs, _, _, rfl, rfl, SqL.of hL2, at_of rfl htb, _, rfl, eqT hTb2 hz2 ⟨_, rfl, iteN (dF e) (iteN (by decide) ?_)⟩⟩
            exact done2 (by simp [shortR, tailR, eB, e]) (by decide)
        case same =>
          refine iteN (nin_mark (by decide +kernel)) ⟨_, rfl, rfl, _, rfl, iteN (by decide +kernel) ⟨_, rfl, _, rfl, l, xs, _, _, rfl, rfl, SqL.of hL2, at_of rfl htb, _, rfl, eqT hTb2 hz2 ⟨_, rfl, ite2d (fun e => ?_) fun e => ?_⟩⟩⟩
          · refine ⟨_, rfl, rfl, _, rfl, iteN (by decide +kernel) ⟨_, rfl, _, rfl, l, xs, _, _, rfl, rfl, SqL.of hL2, at_of rfl htb, _, rfl, eqT hTb2 hz2 ⟨_, rfl, iteP (dT e) ⟨_, rfl, rfl, _, rfl, iteN (by decide +kernel) ?_⟩⟩⟩⟩
            exact done2 (by simp [shortR, tailR]) (by decide)
          · refine iteN (by decide) ⟨_, rfl, _, rfl, l, xs, _, _, rfl, rfl, SqL.of hL2, at_of rfl htb, _, rfl, eqT hTb2 hz2 ⟨_, rfl, iteN (dF e) (iteN (by decide) ?_)⟩⟩
            exact done2 (by simp [shortR, tailR]) (by decide)
    · have hA : ¬ pa = .num 0 := fun z => h (.inl z)
      have hB : ¬ pb = .num 0 := fun z => h (.inr z)
      refine ⟨_, rfl, _, rfl, l, xs, _, _, rfl, rfl, SqL.of hL1, at_of rfl hta, _, rfl, eqT hTa1 hz1 ⟨_, rfl, iteN (dF hA) ?_⟩⟩
      refine ⟨_, rfl, _, rfl, l, xs, _, _, rfl, rfl, SqL.of hL1, at_of rfl htb, _, rfl, eqT hTb1 hz1 ⟨_, rfl, iteN (dF hB) ?_⟩⟩
      refine ⟨Same.refl _, rfl, ?_, fun _ => ⟨hA, hB⟩⟩
      cases o <;> simp [shortR, tailR, shAnd, eA, eB, hA, hB]
  · rintro σ' H2 ⟨s2, rfl, e, hz0⟩
    have hL2 := s2 _ _ hL1
    have hl2 := hl1.news s2
    have hz2 := s2 _ _ hz1
    have hTa2 := s2 _ _ hTa1
    have hTb2 := s2 _ _ hTb1
    have ret2 : ∀ (r : Sh) (H3 : Hp), Same H2 H3 → tailR o pa.word pb.word (decide (a = b)) (2 ^ n - 1) = r → r ≠ .no → LMade H3 l (fin ps o a b r) Q := fun r H3 s3 q ne => (ret1 r (e.trans q) ne).news (s2.trans s3)
    have keep2 : ∀ (p : Part) (t : Addr) (H3 : Hp), Same H2 H3 → H3 t = some (.tup p.vals) → LMade H3 l (mk ps p) Q → sp_law_keep T [.ref l, .ref t] H3 Q E0 := fun p t H3 s3 ht m => ⟨l, t, ps, p, rfl, hl2.news s3, ht, hn, m⟩
    have no2 : ∀ H3 : Hp, Same H2 H3 → tailR o pa.word pb.word (decide (a = b)) (2 ^ n - 1) = .no → Q (.int (-1)) H3 := fun H3 s3 q => k1 (hs ▸ (e.trans q)) H3 (s1.trans (s2.trans s3))
    have pw : (1 : Int) * 2 ^ (n : Int).toNat - 1 = 2 ^ n - 1 := by rw [Int.one_mul, Int.toNat_natCast]
    have noand : o ≠ .and → ¬ decide (V.str o.s = V.str "and") = true := fun ho => dF fun z => ho (op_inj (o' := .and) (by injection z))
    refine ⟨fun σ' H3 => Same H2 H3 ∧ σ' = [some (.ref l), some (.int (n : Nat)), some (.str o.s), some (.int (a : Nat)), some (.int (b : Nat)), some (.ref z)] ∧ (o = .and → ¬ pa = .num (2 ^ n - 1)), ?_, ?_⟩
    · by_cases ho : o = .and
      · subst ho
        refine ⟨_, rfl, rfl, _, rfl, iteP (by decide +kernel) ?_⟩
        refine ⟨_, rfl, _, rfl, l, xs, _, _, rfl, rfl, SqL.of hL2, at_of rfl hta, _, rfl, _, _, rfl, rfl, cpow1 (by omega) (by omega), _, _, rfl, rfl, by show 2 ≤ sizeLine; decide, fun t ht => ?_⟩
        have s3 := same_new (o := .tup [.str "num", .int (1 * 2 ^ (n : Int).toNat - 1)]) ht
        have ht3 : upd H2 t (.tup [.str "num", .int (1 * 2 ^ (n : Int).toNat - 1)]) t = some (.tup (Part.num (2 ^ n - 1)).vals) := by rw [pw]; exact upd_same
        generalize upd H2 t (.tup [.str "num", .int (1 * 2 ^ (n : Int).toNat - 1)]) = H3 at *
        refine eqT (s3 _ _ hTa2) ht3 ⟨_, rfl, ite2d (fun e1 => ?_) fun e1 => ?_⟩
        · exact ⟨_, rfl, ret2 .other H3 s3 (by simp [tailR, (word_iff pa (2 ^ n - 1)).mpr e1]) (by decide) H3 (hl2.news s3) fun b o e _ => e⟩
        · exact ⟨s3, rfl, fun _ => e1⟩
      · exact ⟨_, rfl, rfl, _, rfl, iteN (noand ho) (iteN (by decide) ⟨Same.refl _, rfl, fun z => absurd z ho⟩)⟩
    rintro σ' H3 ⟨s3, rfl, m3⟩
    have hL3 := s3 _ _ hL2
    have hTb3 := s3 _ _ hTb2
    refine ⟨fun σ' H4 => Same H2 H4 ∧ σ' = [some (.ref l), some (.int (n : Nat)), some (.str o.s), some (.int (a : Nat)), some (.int (b : Nat)), some (.ref z)] ∧ (o = .and → ¬ pa = .num (2 ^ n - 1) ∧ ¬ pb = .num (2 ^ n - 1)), ?_, ?_⟩
    · by_cases ho : o = .and
      · subst ho
        refine ⟨_, rfl, rfl, _, rfl, iteP (by decide +kernel) ?_⟩
        refine ⟨_, rfl, _, rfl, l, xs, _, _, rfl, rfl, SqL.of hL3, at_of rfl htb, _, rfl, _, _, rfl, rfl, cpow1 (by omega) (by omega), _, _, rfl, rfl, by show 2 ≤ sizeLine; decide, fun t ht => ?_⟩
        have s4 := same_new (o := .tup [.str "num", .int (1 * 2 ^ (n : Int).toNat - 1)]) ht
        have ht4 : upd H3 t (.tup [.str "num", .int (1 * 2 ^ (n : Int).toNat - 1)]) t = some (.tup (Part.num (2 ^ n - 1)).vals) := by rw [pw]; exact upd_same
        generalize upd H3 t (.tup [.str "num", .int (1 * 2 ^ (n : Int).toNat - 1)]) = H4 at *
        refine eqT (s4 _ _ hTb3) ht4 ⟨_, rfl, ite2d (fun e1 => ?_) fun e1 => ?_⟩
        · have e0 : ¬ pa.word = some (2 ^ n - 1) := fun z => m3 rfl ((word_iff pa _).mp z)
          exact ⟨_, rfl, ret2 .one H4 (s3.trans s4) (by simp [tailR, e0, (word_iff pb (2 ^ n - 1)).mpr e1]) (by decide) H4 (hl2.news (s3.trans s4)) fun b o e _ => e⟩
        · exact ⟨s3.trans s4, rfl, fun _ => ⟨m3 rfl, e1⟩⟩
      · exact ⟨_, rfl, rfl, _, rfl, iteN (noand ho) (iteN (by decide) ⟨s3, rfl, fun z => absurd z ho⟩)⟩
    rintro σ' H4 ⟨s4, rfl, m4⟩
    have et : tailR o pa.word pb.word (decide (a = b)) (2 ^ n - 1) = if o = .and then (if a = b then .one else .no) else if a = b then shTwice o else .no := by
      by_cases ho : o = .and
      · have e1 : ¬ pa.word = some (2 ^ n - 1) := fun z => (m4 ho).1 ((word_iff pa _).mp z)
        have e2 : ¬ pb.word = some (2 ^ n - 1) := fun z => (m4 ho).2 ((word_iff pb _).mp z)
        by_cases hab : a = b <;> simp [tailR, ho, e1, e2, hab]
      · by_cases hab : a = b <;> simp [tailR, ho, hab]
    rw [et] at ret2 no2
    by_cases hab : a = b
    · rw [if_pos hab, if_pos hab] at ret2 no2
      have dab : decide (V.int ((a : Nat) : Int) = V.int ((b : Nat) : Int)) = true := dT (by rw [hab])
      refine ⟨_, rfl, _, rfl, rfl, _, rfl, iteP dab ⟨_, rfl, by show 3 ≤ sizeLine; decide, fun t ht => ⟨t, _, rfl, Or.inr (SqT.of upd_same), rfl, rfl, _, rfl, ?_⟩⟩⟩
      have s5 := s4.trans (same_new (o := .tup [.str "sub", .str "xor", .str "less"]) ht)
      generalize upd H4 t (.tup [.str "sub", .str "xor", .str "less"]) = H5 at *
      have z5 := s5 _ _ hz2
      cases o
      case sub => exact iteP (in_mark (by decide +kernel)) ⟨_, rfl, _, rfl, keep2 (.num 0) z H5 s5 z5 (ret2 .zero H5 s5 rfl (by decide))⟩
      case xor => exact iteP (in_mark (by decide +kernel)) ⟨_, rfl, _, rfl, keep2 (.num 0) z H5 s5 z5 (ret2 .zero H5 s5 rfl (by decide))⟩
      case less => exact iteP (in_mark (by decide +kernel)) ⟨_, rfl, _, rfl, keep2 (.num 0) z H5 s5 z5 (ret2 .zero H5 s5 rfl (by decide))⟩
      all_goals
        refine iteN (nin_mark (by decide +kernel)) ?_
        refine ⟨_, rfl, _, rfl, rfl, _, rfl, iteP dab ⟨_, rfl, by show 2 ≤ sizeLine; decide, fun t ht => ⟨t, _, rfl, Or.inr (SqT.of upd_same), rfl, rfl, _, rfl, ?_⟩⟩⟩
        have s6 := s5.trans (same_new (o := .tup [.str "and", .str "or"]) ht)
        generalize upd H5 t (.tup [.str "and", .str "or"]) = H6 at *
        have one6 := fun q ne => ret2 .one H6 s6 q ne H6 (hl2.news s6) fun b o e _ => e
      case and => exact iteP (in_mark (by decide +kernel)) ⟨_, rfl, one6 rfl (by decide)⟩
      case or => exact iteP (in_mark (by decide +kernel)) ⟨_, rfl, one6 rfl (by decide)⟩
      all_goals
        refine iteN (nin_mark (by decide +kernel)) ?_
      case add =>
        refine ⟨_, rfl, _, rfl, rfl, _, rfl, iteP dab ⟨_, rfl, rfl, _, rfl, iteN (by decide +kernel) ⟨_, rfl, no2 H6 s6 rfl⟩⟩⟩
      case same =>
        refine ⟨_, rfl, _, rfl, rfl, _, rfl, iteP dab ⟨_, rfl, rfl, _, rfl, iteP (by decide +kernel) ⟨_, rfl, by show 2 ≤ sizeLine; decide, fun t ht => ?_⟩⟩⟩
        have s7 := s6.trans (same_new (o := .tup [.str "num", .int 1]) ht)
        exact keep2 (.num 1) t _ s7 upd_same (ret2 .unit _ s7 rfl (by decide))
    · rw [if_neg hab, if_neg hab, ite_self] at ret2 no2
      have dab : ¬ decide (V.int ((a : Nat) : Int) = V.int ((b : Nat) : Int)) = true := dF fun z => hab (by injection z with z; exact Int.ofNat.inj z)
      refine ⟨_, rfl, _, rfl, rfl, _, rfl, iteN dab (iteN (by decide) ?_)⟩
      refine ⟨_, rfl, _, rfl, rfl, _, rfl, iteN dab (iteN (by decide) ?_)⟩
      refine ⟨_, rfl, _, rfl, rfl, _, rfl, iteN dab (iteN (by decide) ?_)⟩
      exact ⟨_, rfl, no2 H4 s4 rfl⟩
end
end My

/-! LC -/
namespace My
open PySem L2
local macro_rules | `(tactic| walk_at "side") => `(tactic| first | with_reducible rfl | assumption | rfl | decide | omega | exact cpow1 (by omega) (by omega) | exact cdiv (by omega) (by omega) | exact two_pos _ | exact SqL.of (by assumption) | exact SqT.of (by assumption) | exact TyX.base (TyOf.int _) | exact TyX.base (TyOf.bl _) | exact TyX.base TyOf.non | exact scal_opt _ _ | exact k_ii | exact k_bi | exact k_ni | exact k_ib | exact k_bb | exact TyX.base (TyOf.lst (by assumption)) | exact k_ll | exact k_lt)
local macro_rules | `(tactic| walk_at "p") => `(tactic| repeat (first | refine And.intro (by walk_at "side") ?_ | apply Exists.intro | refine iteN (by assumption) ?_ | refine iteP (by assumption) ?_ | refine iteN (by decide) ?_ | refine iteP (by decide) ?_))

section
variable {P : Program} {w : World} {K : PySem.W.Frag} {mg : Str → Option Value} {base : Heap}
def sp_law_apply (T : Txt K mg) : Sp := fun vs H Q _ => ∃ (l : Addr) (ps : List Part) (n : Nat) (o : Op) (a b : Nat), vs = [.ref l, .int n, .str o.s, .int a, .int b] ∧ LAt H l ps ∧ ps.length < 999 ∧ n ≤ 12 ∧ a < ps.length ∧ b < ps.length ∧ LMade H l (mApply n ps o a b) Q
theorem sp_law_apply_len {T : Txt K mg} {vs H Q E} (h : sp_law_apply T vs H Q E) : vs.length = 5 := by obtain ⟨_, _, _, _, _, _, rfl, _⟩ := h; rfl
def Part.tag : Part → Str | .num _ => "num" | .get _ => "get" | .op o _ _ => o.s
theorem tag0 (p : Part) : atI p.vals 0 = some (.str p.tag) := by cases p <;> rfl
theorem tag_num {p : Part} (h : p.tag = "num") : ∃ v, p = .num v := by
  cases p with
  | num v => exact ⟨v, rfl⟩
  | get i => exact absurd h (fun z => num_get z.symm)
  | op o a b => exact absurd h (op_ne_num o)
theorem tag_nonum {p : Part} (h : ¬ p.tag = "num") : p.word = none := by
  cases p with
  | num v => exact absurd rfl h
  | get i => rfl
  | op o a b => rfl
theorem mApply_fin {n : Nat} {ps : List Part} {o : Op} {a b : Nat} (h : wordOf ps a = none ∨ wordOf ps b = none) (c d : Nat) (hc : (c, d) = if either o = true ∧ b < a then (b, a) else (a, b)) :
    mApply n ps o a b = fin ps o c d (shortR o (wordOf ps c) (wordOf ps d) (decide (c = d)) (2 ^ n - 1)) := by
  unfold mApply
  split
  · rename_i x y ea eb
    rcases h with h | h
    · rw [h] at ea; cases ea
    · rw [h] at eb; cases eb
  · split
    · rename_i q
      rw [if_pos q] at hc
      cases hc
      rfl
    · rename_i q
      rw [if_neg q] at hc
      cases hc
      rfl
theorem ok_law_apply (T : Txt K mg) : FnOk P w K mg base CX0 3 T.f_law_apply T.fd_law_apply ["_law_parts", "_law_width", "_law_name", "_law_one", "_law_other"] (sp_law_apply T) := by
  have G_law_keep := ok_law_keep (P := P) (w := w) (base := base) T; have G_law_op := ok_law_op (P := P) (w := w) (base := base) T; have G_law_short := ok_law_short (P := P) (w := w) (base := base) T
  refine T.F_law_apply.ok sc_law_apply (fun vs H Q E h => sp_law_apply_len h) (fun cdv A outer s H vs Q E hr h => ?_)
  obtain ⟨l, ps, n, o, a, b, rfl, hl, hn, hw, ha, hb, k⟩ := h
  obtain ⟨xs, hL, ex, hit⟩ := hl.item
  obtain ⟨pa, hpa⟩ : ∃ p, ps[a]? = some p := ⟨_, List.getElem?_eq_getElem ha⟩
  obtain ⟨pb, hpb⟩ : ∃ p, ps[b]? = some p := ⟨_, List.getElem?_eq_getElem hb⟩
  obtain ⟨ta, hta, hTa⟩ := hit a pa hpa
  obtain ⟨tb, htb, hTb⟩ := hit b pb hpb
  refine ⟨_, (Evl.pss_cut (ps_if (PW.pt (pw_and (pt_cmpR op_eq (pe_ix ix_tup (pe_ix ix_list (pv 0) (pv 3) (fun _ _ => rfl)) pe_int (fun _ _ => rfl)) pe_str (nomark _)) (pw_and1 (pt_cmpR op_eq (pe_ix ix_tup (pe_ix ix_list (pv 0) (pv 4) (fun _ _ => rfl)) pe_int (fun _ _ => rfl)) pe_str (nomark _)))))
        (pss_one (ps_ret (pe_call G_law_keep (hr.mono (by decide)) rfl T.g_law_keep T.F_law_keep.kp T.b_law_keep .nil pass0 (pa_cons (pv 0) (pa_cons (pe_tup (pa_cons pe_str (pa_cons (pe_call G_law_op (hr.mono (by decide)) rfl T.g_law_op T.F_law_op.kp T.b_law_op .nil pass0 (pa_cons (pv 2) (pa_cons (pe_ix ix_tup (pe_ix ix_list (pv 0) (pv 3) (fun _ _ => rfl)) pe_int (fun _ _ => rfl)) (pa_cons (pe_ix ix_tup (pe_ix ix_list (pv 0) (pv 4) (fun _ _ => rfl)) pe_int (fun _ _ => rfl)) (pa_cons (pv 1) pa_nil))))) pa_nil))) pa_nil)))))
        pss_nil)
       (Evl.pss_cut (ps_if (PW.pt (pw_and (pt_cmpR op_gt (pv 3) (pv 4) (nomark _)) (pw_and1 (pt_cmpR op_in_seq (pv 2) (pe_tup (pa_cons pe_str (pa_cons pe_str (pa_cons pe_str (pa_cons pe_str (pa_cons pe_str pa_nil)))))) (by rfl)))))
        (pss_one (ps_par (i := 3) (j := 4) (by rfl) sc_law_apply.nd rfl rfl (by decide) rfl rfl (pa_cons (pv 4) (pa_cons (pv 3) pa_nil)) (by rfl)))
        pss_nil)
       (pss_cons (ps_set (i := 5) sc_law_apply.nd rfl (Or.inl rfl) (pe_call G_law_short hr rfl T.g_law_short T.F_law_short.kp T.b_law_short .nil pass0 (pa_cons (pv 0) (pa_cons (pv 1) (pa_cons (pv 2) (pa_cons (pv 3) (pa_cons (pv 4) pa_nil)))))))
       (pss_cons (ps_if (pt_cmpR op_ge (pv 5) pe_int (nomark _))
        (pss_one (ps_ret (pv 5)))
        pss_nil)
       (pss_one (ps_ret (pe_call G_law_keep (hr.mono (by decide)) rfl T.g_law_keep T.F_law_keep.kp T.b_law_keep .nil pass0 (pa_cons (pv 0) (pa_cons (pe_tup (pa_cons (pv 2) (pa_cons (pv 3) (pa_cons (pv 4) pa_nil)))) pa_nil))))))))), ?_⟩
  refine ⟨fun σ' H2 => H2 = H ∧ σ' = [some (.ref l), some (.int (n : Nat)), some (.str o.s), some (.int (a : Nat)), some (.int (b : Nat)), none] ∧ (pa.word = none ∨ pb.word = none), ?_, ?_⟩
  · refine ⟨_, rfl, _, rfl, l, xs, _, _, rfl, rfl, SqL.of hL, at_of rfl hta, ?_⟩
    refine ⟨ta, _, 0, _, rfl, rfl, SqT.of hTa, tag0 pa, rfl, _, rfl, ?_⟩
    by_cases ea : pa.tag = "num"
    · refine iteP (dT (by rw [ea])) ?_
      refine ⟨_, rfl, _, rfl, l, xs, _, _, rfl, rfl, SqL.of hL, at_of rfl htb, tb, _, 0, _, rfl, rfl, SqT.of hTb, tag0 pb, rfl, _, rfl, ?_⟩
      by_cases eb : pb.tag = "num"
      · refine iteP (dT (by rw [eb])) ?_
        obtain ⟨x, rfl⟩ := tag_num ea
        obtain ⟨y, rfl⟩ := tag_num eb
        refine ⟨_, rfl, _, rfl, _, rfl, _, rfl, l, xs, _, _, rfl, rfl, SqL.of hL, at_of rfl hta, ta, _, 1, _, rfl, rfl, SqT.of hTa, rfl, _, rfl, _, rfl, l, xs, _, _, rfl, rfl, SqL.of hL, at_of rfl htb, tb, _, 1, _, rfl, rfl, SqT.of hTb, rfl, _, rfl, ?_⟩
        have em : mApply n ps o a b = mk ps (.num (opI n o x y)) := by unfold mApply; rw [wordOf_at hpa, wordOf_at hpb]; rfl
        rw [em] at k
        refine ⟨o, x, y, n, rfl, hw, by show 2 ≤ sizeLine; decide, fun t ht => ?_⟩
        have s1 := same_new (o := .tup [.str "num", .int (opI n o x y)]) ht
        exact ⟨l, t, ps, .num (opI n o x y), rfl, hl.news s1, upd_same, by omega, k.news s1⟩
      · refine iteN (dF fun z => eb (by injection z)) ?_
        exact ⟨rfl, rfl, .inr (tag_nonum eb)⟩
    · refine iteN (dF fun z => ea (by injection z)) (iteN (by decide) ?_)
      exact ⟨rfl, rfl, .inl (tag_nonum ea)⟩
  · rintro σ' H2 ⟨rfl, rfl, hno⟩
    rw [← wordOf_at hpa, ← wordOf_at hpb] at hno
    refine ⟨fun σ' H3 => Same H2 H3 ∧ ∃ c d, (c, d) = (if either o = true ∧ b < a then (b, a) else (a, b)) ∧ σ' = [some (.ref l), some (.int (n : Nat)), some (.str o.s), some (.int (c : Nat)), some (.int (d : Nat)), none], ?_, ?_⟩
    · refine ⟨_, rfl, _, rfl, _, _, rfl, rfl, _, rfl, ?_⟩
      by_cases hba : b < a
      · refine iteP (dT (by omega)) ⟨_, rfl, by show 5 ≤ sizeLine; decide, fun t ht => ⟨t, _, rfl, Or.inr (SqT.of upd_same), rfl, rfl, _, rfl, ?_⟩⟩
        have s1 := same_new (o := .tup [.str "add", .str "and", .str "or", .str "xor", .str "same"]) ht
        generalize upd H2 t (.tup [.str "add", .str "and", .str "or", .str "xor", .str "same"]) = H3 at *
        cases o
        case sub => exact iteN (nin_mark (by decide +kernel)) ⟨s1, a, b, by rw [if_neg fun z => by cases z.1], rfl⟩
        case less => exact iteN (nin_mark (by decide +kernel)) ⟨s1, a, b, by rw [if_neg fun z => by cases z.1], rfl⟩
        all_goals exact iteP (in_mark (by decide +kernel)) ⟨_, rfl, _, rfl, _, _, rfl, s1, b, a, by rw [if_pos ⟨rfl, hba⟩], rfl⟩
      · refine iteN (dF (by omega)) (iteN (by decide) ?_)
        exact ⟨Same.refl _, a, b, by rw [if_neg fun z => hba z.2], rfl⟩
    · rintro σ' H3 ⟨s1, c, d, hcd, rfl⟩
      rw [mApply_fin hno c d hcd] at k
      have hc : c < ps.length := by split at hcd <;> (cases hcd; assumption)
      have hd : d < ps.length := by split at hcd <;> (cases hcd; assumption)
      refine ⟨_, rfl, _, rfl, _, rfl, _, rfl, _, rfl, ?_⟩
      have hl1 := hl.news s1
      refine ⟨l, ps, n, o, c, d, rfl, hl1, by omega, hw, hc, hd, fun e H4 s4 => ?_, fun ne H4 hl4 s4 => ?_⟩
      · rw [e] at k
        refine ⟨_, rfl, _, _, rfl, rfl, _, rfl, iteN (by decide) ?_⟩
        refine ⟨_, rfl, _, rfl, _, rfl, _, rfl, by show 3 ≤ sizeLine; decide, fun t ht => ?_⟩
        have s5 := same_new (o := .tup [.str o.s, .int (c : Nat), .int (d : Nat)]) ht
        exact ⟨l, t, ps, .op o c d, rfl, hl1.news (s4.trans s5), upd_same, by omega, k.news (s1.trans (s4.trans s5))⟩
      · refine ⟨_, rfl, _, _, rfl, rfl, _, rfl, iteP (dT (by omega)) ⟨_, rfl, ?_⟩⟩
        exact k H4 hl4 fun b o e h => s4 b o (s1 b o e) h
end
end My

/-! LD -/
namespace My
open PySem L2
local macro_rules | `(tactic| walk_at "side") => `(tactic| first | with_reducible rfl | assumption | rfl | decide | omega | exact cpow1 (by omega) (by omega) | exact cdiv (by omega) (by omega) | exact two_pos _ | exact SqL.of (by assumption) | exact SqT.of (by assumption) | exact TyX.base (TyOf.int _) | exact TyX.base (TyOf.bl _) | exact TyX.base TyOf.non | exact scal_opt _ _ | exact k_ii | exact k_bi | exact k_ni | exact k_ib | exact k_bb | exact TyX.base (TyOf.lst (by assumption)) | exact k_ll | exact k_lt)
local macro_rules | `(tactic| walk_at "p") => `(tactic| repeat (first | refine And.intro (by walk_at "side") ?_ | apply Exists.intro | refine iteN (by assumption) ?_ | refine iteP (by assumption) ?_ | refine iteN (by decide) ?_ | refine iteP (by decide) ?_))

section
variable {P : Program} {w : World} {K : PySem.W.Frag} {mg : Str → Option Value} {base : Heap}
/-- one row made: its number and the parts behind it -/
def mPart (n : Nat) (ps : List Part) (r : Part) (pl : List Nat) : Nat × List Part := match r with
  | .op o a b => mApply n ps o (pl.getD a 0) (pl.getD b 0)
  | p => mk ps p
def natL (pl : List Nat) : List V := pl.map fun (k : Nat) => V.int (k : Nat)
theorem natL_len (pl : List Nat) : (natL pl).length = pl.length := by unfold natL; simp
theorem natL_at {pl : List Nat} {a : Nat} (h : a < pl.length) : atI (natL pl) (a : Nat) = some (.int (pl.getD a 0 : Nat)) := by
  refine at_of (j := a) rfl ?_
  unfold natL
  rw [List.getElem?_map, List.getD_eq_getElem?_getD, List.getElem?_eq_getElem h]; rfl
/-- the row's operands stand ahead, and what was made stands in the pool -/
structure RowIn (n : Nat) (ps : List Part) (r : Part) (pl : List Nat) : Prop where
  ahead : ∀ o a b, r = .op o a b → a < pl.length ∧ b < pl.length
  there : ∀ k ∈ pl, k < ps.length
  ok : PartOk n r
theorem RowIn.at {n : Nat} {ps : List Part} {r : Part} {pl : List Nat} (h : RowIn n ps r pl) {a : Nat} (ha : a < pl.length) : pl.getD a 0 < ps.length := by
  rw [List.getD_eq_getElem?_getD, List.getElem?_eq_getElem ha]
  exact h.there _ (List.getElem_mem ha)
theorem tag_get {p : Part} (h : p.tag = "get") : ∃ v, p = .get v := by
  cases p with
  | num v => exact absurd h num_get
  | get i => exact ⟨i, rfl⟩
  | op o a b => exact absurd h (op_ne_get o)
theorem op_tag (o : Op) : ¬ decide (V.str o.s = V.str "get") = true ∧ ¬ decide (V.str o.s = V.str "num") = true := ⟨op_get_f o, op_num_f o⟩
theorem num_get_f : ¬ decide (V.str (Str.ofString "num") = V.str "get") = true := by decide +kernel
def sp_law_part (T : Txt K mg) : Sp := fun vs H Q _ => ∃ (l t L : Addr) (ps : List Part) (n : Nat) (r : Part) (pl : List Nat), vs = [.ref l, .int n, .ref t, .ref L] ∧ LAt H l ps ∧ ps.length < 999 ∧ n ≤ 12 ∧ H t = some (.tup r.vals) ∧ H L = some (.lst (natL pl)) ∧ RowIn n ps r pl ∧ LMade H l (mPart n ps r pl) Q
theorem sp_law_part_len {T : Txt K mg} {vs H Q E} (h : sp_law_part T vs H Q E) : vs.length = 4 := by obtain ⟨_, _, _, _, _, _, _, rfl, _⟩ := h; rfl
theorem ok_law_part (T : Txt K mg) : FnOk P w K mg base CX0 4 T.f_law_part T.fd_law_part ["_law_parts", "_law_width", "_law_row", "_law_places"] (sp_law_part T) := by
  have G_law_apply := ok_law_apply (P := P) (w := w) (base := base) T; have G_law_keep := ok_law_keep (P := P) (w := w) (base := base) T
  refine T.F_law_part.ok sc_law_part (fun vs H Q E h => sp_law_part_len h) (fun cdv A outer s H vs Q E hr h => ?_)
  obtain ⟨l, t, L, ps, n, r, pl, rfl, hl, hn, hw, ht, hL, hR, k⟩ := h
  refine ⟨_, (pss_cons (ps_if (PW.pt (pw_or (pt_cmpR op_eq (pe_ix ix_tup (pv 2) pe_int (fun _ _ => rfl)) pe_str (nomark _)) (pw_or1 (pt_cmpR op_eq (pe_ix ix_tup (pv 2) pe_int (fun _ _ => rfl)) pe_str (nomark _)))))
        (pss_one (ps_ret (pe_call G_law_keep (hr.mono (by decide)) rfl T.g_law_keep T.F_law_keep.kp T.b_law_keep .nil pass0 (pa_cons (pv 0) (pa_cons (pe_tup (pa_cons (pe_ix ix_tup (pv 2) pe_int (fun _ _ => rfl)) (pa_cons (pe_ix ix_tup (pv 2) pe_int (fun _ _ => rfl)) pa_nil))) pa_nil)))))
        pss_nil)
       (pss_one (ps_ret (pe_call G_law_apply hr rfl T.g_law_apply T.F_law_apply.kp T.b_law_apply .nil pass0 (pa_cons (pv 0) (pa_cons (pv 1) (pa_cons (pe_ix ix_tup (pv 2) pe_int (fun _ _ => rfl)) (pa_cons (pe_ix ix_list (pv 3) (pe_ix ix_tup (pv 2) pe_int (fun _ _ => rfl)) (fun _ _ => rfl)) (pa_cons (pe_ix ix_list (pv 3) (pe_ix ix_tup (pv 2) pe_int (fun _ _ => rfl)) (fun _ _ => rfl)) pa_nil))))))))), ?_⟩
  have sz : (2 : Nat) ≤ sizeLine := by show 2 ≤ sizeLine; decide
  have keep : ∀ q : Addr, H q = none → ∀ x : Part, x.vals.length = 2 → mPart n ps r pl = mk ps x → sp_law_keep T [.ref l, .ref q] (upd H q (.tup x.vals)) Q E0 := fun q hq x _ e => by
    rw [e] at k
    exact ⟨l, q, ps, x, rfl, hl.news (same_new hq), upd_same, by omega, k.news (same_new hq)⟩
  refine ⟨_, rfl, t, _, 0, _, rfl, rfl, SqT.of ht, tag0 r, rfl, _, rfl, ?_⟩
  cases r with
  | get i =>
    refine iteP (dT rfl) (iteP rfl ?_)
    exact ⟨_, rfl, _, rfl, t, _, 0, _, rfl, rfl, SqT.of ht, rfl, _, rfl, t, _, 1, _, rfl, rfl, SqT.of ht, rfl, sz, fun q hq => keep q hq (.get i) rfl rfl⟩
  | num i =>
    refine iteN num_get_f ?_
    refine ⟨_, rfl, t, _, 0, _, rfl, rfl, SqT.of ht, rfl, rfl, _, rfl, iteP (dT rfl) ?_⟩
    exact ⟨_, rfl, _, rfl, t, _, 0, _, rfl, rfl, SqT.of ht, rfl, _, rfl, t, _, 1, _, rfl, rfl, SqT.of ht, rfl, sz, fun q hq => keep q hq (.num i) rfl rfl⟩
  | op o a b =>
    obtain ⟨ha, hb⟩ := hR.ahead o a b rfl
    refine iteN (op_get_f o) ?_
    refine ⟨_, rfl, t, _, 0, _, rfl, rfl, SqT.of ht, rfl, rfl, _, rfl, iteN (op_num_f o) ?_⟩
    refine ⟨_, rfl, _, rfl, _, rfl, t, _, 0, _, rfl, rfl, SqT.of ht, rfl, _, rfl, _, rfl, t, _, 1, _, rfl, rfl, SqT.of ht, rfl, L, _, _, _, rfl, rfl, SqL.of hL, natL_at ha, _, rfl, _, rfl, t, _, 2, _, rfl, rfl, SqT.of ht, rfl, L, _, _, _, rfl, rfl, SqL.of hL, natL_at hb, ?_⟩
    exact ⟨l, ps, n, o, _, _, rfl, hl, hn, hw, hR.at ha, hR.at hb, k⟩
def sp_law_asked (T : Txt K mg) : Sp := fun vs H Q _ => ∃ (a l d t L : Addr) (ps : List Part) (n : Nat) (r : Part) (pl : List Nat), vs = [.ref a, .ref t, .ref L] ∧ PoolAt T.C H a l d n ps ∧ ps.length < 3999 ∧ n ≤ 12 ∧ H t = some (.tup r.vals) ∧ H L = some (.lst (natL pl)) ∧ RowIn n ps r pl ∧ Made T.C H a l d n (mPart n ps r pl) Q
theorem sp_law_asked_len {T : Txt K mg} {vs H Q E} (h : sp_law_asked T vs H Q E) : vs.length = 3 := by obtain ⟨_, _, _, _, _, _, _, _, _, rfl, _⟩ := h; rfl
theorem ok_law_asked (T : Txt K mg) : FnOk P w K mg base CX0 4 T.f_law_asked T.fd_law_asked ["_law_pool", "_law_row", "_law_places"] (sp_law_asked T) := by
  have G_p_apply := ok_p_apply (P := P) (w := w) (base := base) T; have G_p_num := ok_p_num (P := P) (w := w) (base := base) T; have G_p_unknown := ok_p_unknown (P := P) (w := w) (base := base) T
  refine T.F_law_asked.ok sc_law_asked (fun vs H Q E h => sp_law_asked_len h) (fun cdv A outer s H vs Q E hr h => ?_)
  obtain ⟨a, l, d, t, L, ps, n, r, pl, rfl, hp, hn, hw, ht, hL, hR, k⟩ := h
  obtain ⟨dx, ho⟩ := id hp.ob
  refine ⟨_, (pss_cons (ps_if (pt_cmpR op_eq (pe_ix ix_tup (pv 1) pe_int (fun _ _ => rfl)) pe_str (nomark _))
        (pss_one (ps_ret (pe_meth (pv 0) T.cl T.m_p_unknown G_p_unknown hr T.b_p_unknown .nil pass0 (pa_cons (pe_ix ix_tup (pv 1) pe_int (fun _ _ => rfl)) pa_nil))))
        pss_nil)
       (pss_cons (ps_if (pt_cmpR op_eq (pe_ix ix_tup (pv 1) pe_int (fun _ _ => rfl)) pe_str (nomark _))
        (pss_one (ps_ret (pe_meth (pv 0) T.cl T.m_p_num G_p_num hr T.b_p_num .nil pass0 (pa_cons (pe_ix ix_tup (pv 1) pe_int (fun _ _ => rfl)) pa_nil))))
        pss_nil)
       (pss_one (ps_ret (pe_meth (pv 0) T.cl T.m_p_apply G_p_apply hr T.b_p_apply .nil pass0 (pa_cons (pe_ix ix_tup (pv 1) pe_int (fun _ _ => rfl)) (pa_cons (pe_ix ix_list (pv 2) (pe_ix ix_tup (pv 1) pe_int (fun _ _ => rfl)) (fun _ _ => rfl)) (pa_cons (pe_ix ix_list (pv 2) (pe_ix ix_tup (pv 1) pe_int (fun _ _ => rfl)) (fun _ _ => rfl)) pa_nil)))))))), ?_⟩
  refine ⟨_, rfl, t, _, 0, _, rfl, rfl, SqT.of ht, tag0 r, rfl, _, rfl, ?_⟩
  cases r with
  | get i =>
    have hi := hR.ok
    refine iteP (dT rfl) ?_
    refine ⟨_, rfl, a, dx, _, rfl, ho, no_meth (by decide +kernel), _, rfl, t, _, 1, _, rfl, rfl, SqT.of ht, rfl, ?_⟩
    exact ⟨a, l, d, n, ps, i, rfl, hp, hn, hi.1, hi.2, k⟩
  | num i =>
    have hi : 0 ≤ i ∧ i < 2 ^ n := hR.ok
    refine iteN num_get_f ?_
    refine ⟨_, rfl, t, _, 0, _, rfl, rfl, SqT.of ht, rfl, rfl, _, rfl, iteP (dT rfl) ?_⟩
    refine ⟨_, rfl, a, dx, _, rfl, ho, no_meth (by decide +kernel), _, rfl, t, _, 1, _, rfl, rfl, SqT.of ht, rfl, ?_⟩
    exact ⟨a, l, d, n, ps, i, rfl, hp, hn, hi.1, by omega, k⟩
  | op o x y =>
    obtain ⟨hx, hy⟩ := hR.ahead o x y rfl
    refine iteN (op_get_f o) ?_
    refine ⟨_, rfl, t, _, 0, _, rfl, rfl, SqT.of ht, rfl, rfl, _, rfl, iteN (op_num_f o) ?_⟩
    refine ⟨_, rfl, a, dx, _, rfl, ho, no_meth (by decide +kernel), _, rfl, t, _, 0, _, rfl, rfl, SqT.of ht, rfl, _, rfl, _, rfl, t, _, 1, _, rfl, rfl, SqT.of ht, rfl, L, _, _, _, rfl, rfl, SqL.of hL, natL_at hx, _, rfl, _, rfl, t, _, 2, _, rfl, rfl, SqT.of ht, rfl, L, _, _, _, rfl, rfl, SqL.of hL, natL_at hy, ?_⟩
    exact ⟨a, l, d, n, ps, o, _, _, rfl, hp, hn, hw, hR.at hx, hR.at hy, k⟩
end
end My

/-! R6 -/
namespace My
open PySem L2
theorem ixN_nat {n a : Nat} (h : a < n) : ixN n (a : Int) = some a := by
  unfold ixN
  rw [if_pos (by omega), if_pos (by omega)]; rfl
/-! ### marks, from the back -/
structure MInv (ps : List Part) (i : Nat) (m : List Bool) (done : Nat) : Prop where
  len : m.length = ps.length
  rch : ∀ k, m[k]? = some true → Reach ps i k
  root : m[i]? = some true
  clo : ∀ k o a b, ps.length ≤ k + done → m[k]? = some true → ps[k]? = some (Part.op o a b) → m[a]? = some true ∧ m[b]? = some true
theorem set_mark {m : List Bool} {a k : Nat} (h : (m.set a true)[k]? = some true) : k = a ∨ m[k]? = some true := by
  rw [List.getElem?_set] at h
  split at h
  · rename_i e; exact .inl e.symm
  · exact .inr h
theorem set_mono {m : List Bool} {a k : Nat} (h : m[k]? = some true) : (m.set a true)[k]? = some true := by
  rw [List.getElem?_set]
  split
  · rename_i e; subst e
    rw [if_pos (List.getElem?_eq_some_iff.mp h).1]
  · exact h
theorem set_self {m : List Bool} {a : Nat} (h : a < m.length) : (m.set a true)[a]? = some true := by
  rw [List.getElem?_set, if_pos rfl, if_pos h]
theorem MInv.start {ps : List Part} {i : Nat} (hi : i < ps.length) : MInv ps i ((List.replicate ps.length false).set i true) 0 := by
  refine ⟨by simp, fun k h => ?_, set_self (by simpa using hi), fun k o a b hk h e => ?_⟩
  · rcases set_mark h with rfl | h
    · exact .self
    · rw [List.getElem?_replicate] at h
      split at h <;> cases h
  · have := (List.getElem?_eq_some_iff.mp e).1; omega
theorem MInv.skip {ps : List Part} {i at_ done : Nat} {m : List Bool} (h : MInv ps i m done) (e : at_ + done + 1 = ps.length) (no : m[at_]? = some true → ∀ o a b, ps[at_]? ≠ some (Part.op o a b)) : MInv ps i m (done + 1) :=
  ⟨h.len, h.rch, h.root, fun k o a b hk hm hp => by
    by_cases ek : k = at_
    · subst ek; exact absurd hp (no hm o a b)
    · exact h.clo k o a b (by omega) hm hp⟩
theorem MInv.mark {ps : List Part} {i at_ done : Nat} {m : List Bool} {o : Op} {a b : Nat} (h : MInv ps i m done) (wf : WF ps) (e : at_ + done + 1 = ps.length) (hm : m[at_]? = some true) (hp : ps[at_]? = some (Part.op o a b)) : MInv ps i ((m.set a true).set b true) (done + 1) := by
  have ab := wf _ _ _ _ hp
  have hr := h.rch _ hm
  refine ⟨by simp [h.len], fun k hk => ?_, set_mono (set_mono h.root), fun k o' a' b' hk hm' hp' => ?_⟩
  · rcases set_mark hk with rfl | hk
    · exact .right hr hp
    · rcases set_mark hk with rfl | hk
      · exact .left hr hp
      · exact h.rch _ hk
  · by_cases ek : k = at_
    · subst ek
      rw [hp] at hp'
      cases hp'
      exact ⟨set_mono (set_self (by rw [h.len]; omega)), set_self (by rw [List.length_set, h.len]; omega)⟩
    · have hk2 : m[k]? = some true := by
        rcases set_mark hm' with rfl | hm'
        · omega
        · rcases set_mark hm' with rfl | hm'
          · omega
          · exact hm'
      have := h.clo k o' a' b' (by omega) hk2 hp'
      exact ⟨set_mono (set_mono this.1), set_mono (set_mono this.2)⟩
def markL (m : List Bool) (j : Nat) : List Nat := (List.range j).filter fun k => decide (m[k]? = some true)
theorem markL_yes {m : List Bool} {j : Nat} (h : m[j]? = some true) : markL m (j + 1) = markL m j ++ [j] := by
  unfold markL; rw [List.range_succ, List.filter_append]; simp [h]
theorem markL_no {m : List Bool} {j : Nat} (h : ¬ m[j]? = some true) : markL m (j + 1) = markL m j := by
  unfold markL; rw [List.range_succ, List.filter_append]; simp [h]
theorem markL_len (m : List Bool) (j : Nat) : (markL m j).length ≤ j := by
  unfold markL; exact Nat.le_trans (List.length_filter_le _ _) (by simp)
theorem MInv.done {ps : List Part} {i : Nat} {m : List Bool} (h : MInv ps i m ps.length) (wf : WF ps) (hi : i < ps.length) : ReachL ps i (markL m ps.length) := by
  refine ⟨List.Pairwise.filter _ List.pairwise_lt_range, fun k => ?_⟩
  have back : Reach ps i k → m[k]? = some true := by
    intro r
    induction r with
    | self => exact h.root
    | left r e ih => exact (h.clo _ _ _ _ (by omega) ih e).1
    | right r e ih => exact (h.clo _ _ _ _ (by omega) ih e).2
  unfold markL
  rw [List.mem_filter, List.mem_range]
  exact ⟨fun z => h.rch k (of_decide_eq_true z.2), fun r => ⟨by have := r.le wf; omega, decide_eq_true (back r)⟩⟩
end My

/-! LE -/
namespace My
open PySem L2
local macro_rules | `(tactic| walk_at "side") => `(tactic| first | with_reducible rfl | assumption | rfl | decide | omega | exact cpow1 (by omega) (by omega) | exact cdiv (by omega) (by omega) | exact two_pos _ | exact SqL.of (by assumption) | exact SqT.of (by assumption) | exact TyX.base (TyOf.int _) | exact TyX.base (TyOf.bl _) | exact TyX.base TyOf.non | exact scal_opt _ _ | exact k_ii | exact k_bi | exact k_ni | exact k_ib | exact k_bb | exact TyX.base (TyOf.lst (by assumption)) | exact k_ll | exact k_lt)
local macro_rules | `(tactic| walk_at "p") => `(tactic| repeat (first | refine And.intro (by walk_at "side") ?_ | apply Exists.intro | refine iteN (by assumption) ?_ | refine iteP (by assumption) ?_ | refine iteN (by decide) ?_ | refine iteP (by decide) ?_))

section
variable {P : Program} {w : World} {K : PySem.W.Frag} {mg : Str → Option Value} {base : Heap}
def sp_law_reach (T : Txt K mg) : Sp := fun vs H Q _ => ∃ (l L : Addr) (ps : List Part) (i : Nat), vs = [.ref l, .ref L] ∧ LAt H l ps ∧ WF ps ∧ ps.length < 60 ∧ H L = some (.lst [.int i]) ∧ i < ps.length ∧
  ∀ (H' : Hp) (ks : List Nat) (t : Addr), ReachL ps i ks → Same H H' → H t = none → H' t = some (.lst (natL ks)) → Q (.ref t) H'
theorem sp_law_reach_len {T : Txt K mg} {vs H Q E} (h : sp_law_reach T vs H Q E) : vs.length = 2 := by obtain ⟨_, _, _, _, rfl, _⟩ := h; rfl
theorem ok_law_reach (T : Txt K mg) : FnOk P w K mg base CX0 1 T.f_law_reach T.fd_law_reach ["_law_parts", "_law_numbers"] (sp_law_reach T) := by
  skip
  refine T.F_law_reach.ok sc_law_reach (fun vs H Q E h => sp_law_reach_len h) (fun cdv A outer s H vs Q E hr h => ?_)
  obtain ⟨l, L, ps, i, rfl, hl, wf, h60, hL, hi, k⟩ := h
  obtain ⟨xs, hX, ex, hit⟩ := hl.item
  refine ⟨_, (pss_cons (ps_set (i := 2) sc_law_reach.nd rfl (Or.inr rfl) (pe_lc (own := [("_law_part_here", 6)]) (g := gName 6) (tt := tYes) rfl sc_law_reach.nd (pi_list (pv 0)) (blkOk_by (N := ["_law_parts", "_law_numbers", "_law_marks", "_law_number", "_law_back", "_law_at", "_law_part_here"]) (sc := defScope s_law_reach) (by decide +kernel)) (fun _ _ _ _ _ => by exact pg_name (i := 6) sc_law_reach.nd rfl (Or.inl rfl)) (fun _ _ _ _ _ => by exact pts_nil) (fun _ _ _ _ _ => by exact pe_bl)))
       (pss_cons (ps_for PassesOwn.never rfl (pi_list (pv 1)) (pg_name (i := 3) sc_law_reach.nd rfl (Or.inl rfl))
        (pss_one (ps_asg pe_bl (pg_sub (pv 2) (pv 3) set_list))))
       (pss_cons (ps_for PassesOwn.never rfl (pi_range1 (by rfl) T.n_range (pa_cons (pe_callB call_lenL (by rfl) T.n_len (by decide +kernel) (pa_cons (pv 0) pa_nil)) pa_nil)) (pg_name (i := 4) sc_law_reach.nd rfl (Or.inl rfl))
        (pss_cons (ps_set (i := 5) sc_law_reach.nd rfl (Or.inl rfl) (pe_op op_sub (pe_op op_sub (pe_callB call_lenL (by rfl) T.n_len (by decide +kernel) (pa_cons (pv 0) pa_nil)) pe_int) (pv 4)))
       (pss_one (ps_if (PW.pt (pw_and (pt_val (pe_ix ix_list (pv 2) (pv 5) (fun _ _ => rfl))) (pw_and1 (pt_cmpR op_eq (pe_callB call_lenT (by rfl) T.n_len (by decide +kernel) (pa_cons (pe_ix ix_list (pv 0) (pv 5) (fun _ _ => rfl)) pa_nil)) pe_int (nomark _)))))
        (pss_cons (ps_asg pe_bl (pg_sub (pv 2) (pe_ix ix_tup (pe_ix ix_list (pv 0) (pv 5) (fun _ _ => rfl)) pe_int (fun _ _ => rfl)) set_list))
       (pss_one (ps_asg pe_bl (pg_sub (pv 2) (pe_ix ix_tup (pe_ix ix_list (pv 0) (pv 5) (fun _ _ => rfl)) pe_int (fun _ _ => rfl)) set_list))))
        pss_nil))))
       (pss_one (ps_ret (pe_lc (te := tVar 5) (own := [("_law_at", 5)]) (g := gName 5) (tt := (tTest (tOp (rIxL K) (tVar 2) (tVar 5)))) rfl sc_law_reach.nd (pi_range1 (by rfl) T.n_range (pa_cons (pe_callB call_lenL (by rfl) T.n_len (by decide +kernel) (pa_cons (pv 0) pa_nil)) pa_nil)) (blkOk_by (N := ["_law_parts", "_law_numbers", "_law_marks", "_law_number", "_law_back", "_law_at", "_law_part_here"]) (sc := defScope s_law_reach) (by decide +kernel)) (fun _ _ _ _ _ => by exact pg_name (i := 5) sc_law_reach.nd rfl (Or.inl rfl)) (fun _ _ _ _ _ => by exact (pts_one (pt_val (pe_ix ix_list (pv 2) (pv 5) (fun _ _ => rfl))))) (fun _ _ _ _ _ => by exact (pv 5)))))))), ?_⟩
  have sz : sizeLine = 16777216 := sizeLine_eq
  -- marks = [False for ..]
  refine ⟨_, rfl, l, rfl, ⟨_, SqL.of hX⟩, fun D hD => ?_⟩
  have LD : L ≠ D := ne_of_none hL hD
  refine lc_list (K := K) (a := l) (xs := xs) (fun j H2 => Same H H2 ∧ H2 D = some (.lst ((List.replicate j false).map V.bl))) ⟨same_new hD, upd_same⟩ (fun j H2 _ ⟨s2, _⟩ => SqL.of (s2 _ _ hX)) ?_ ?_
  · rintro j x H2 hj ⟨s2, h2⟩
    have hjl := (List.getElem?_eq_some_iff.mp hj).1
    refine ⟨rfl, yesT (iteP rfl ⟨_, h2, by simp; omega, fun b o e => ?_, ?_⟩)⟩
    · rw [upd_ne (ne_of_none e hD)]; exact s2 _ _ e
    · rw [upd_same, List.replicate_succ', List.map_append]; rfl
  rintro H2 ⟨s2, h2⟩
  rw [ex] at h2
  -- for number in numbers
  refine ⟨_, rfl, L, rfl, ⟨_, SqL.of (s2 _ _ hL)⟩, ?_⟩
  refine for_list (K := K) (a := L) (xs := [V.int (i : Nat)]) (fun j σ' H3 => ∃ v3 : Option V, σ' = [some (.ref l), some (.ref L), some (.ref D), v3, none, none, none] ∧ Same H H3 ∧ H3 D = some (.lst ((if j = 0 then List.replicate ps.length false else (List.replicate ps.length false).set i true).map V.bl))) ⟨none, rfl, s2, h2⟩ ?_ ?_ ?_
  · rintro j σ' H3 _ ⟨_, _, s3, _⟩
    exact SqL.of (s3 _ _ hL)
  · rintro j x σ' H3 hj ⟨v3, rfl, s3, h3⟩
    have hj0 : j = 0 := by have := (List.getElem?_eq_some_iff.mp hj).1; simp at this; omega
    subst hj0
    cases hj
    rw [if_pos rfl] at h3
    refine ⟨_, rfl, _, rfl, D, _, _, i, rfl, rfl, h3, ixN_nat (by simp; omega), some (.int (i : Nat)), rfl, fun b o e => ?_, ?_⟩
    · rw [upd_ne (ne_of_none e hD)]; exact s3 _ _ e
    · rw [upd_same, if_neg (by omega), List.map_set]
  rintro σ' H3 ⟨v3, rfl, s3, h3⟩
  rw [if_neg (by simp)] at h3
  -- from the back
  refine ⟨_, rfl, l, xs, rfl, SqL.of (s3 _ _ hX), _, rfl, by omega, by omega, ?_⟩
  refine for_range (lo := 0) (n := ((xs.length : Nat) : Int).toNat) (fun j σ' H4 => ∃ (v4 v5 : Option V) (m : List Bool), σ' = [some (.ref l), some (.ref L), some (.ref D), v3, v4, v5, none] ∧ Same H H4 ∧ H4 D = some (.lst (m.map V.bl)) ∧ MInv ps i m j) ⟨none, none, _, rfl, s3, h3, MInv.start hi⟩ ?_ ?_
  · rintro j σ' H4 hj ⟨v4, v5, m, rfl, s4, h4, mi⟩
    rw [Int.toNat_natCast, ex] at hj
    obtain ⟨at_, eat⟩ : ∃ at_, at_ + j + 1 = ps.length := ⟨ps.length - j - 1, by omega⟩
    obtain ⟨p, hp⟩ : ∃ p, ps[at_]? = some p := ⟨_, List.getElem?_eq_getElem (by omega)⟩
    obtain ⟨u, hu, hU⟩ := hit at_ p hp
    have hU4 := s4 _ _ hU
    obtain ⟨b, hb⟩ : ∃ b, m[at_]? = some b := ⟨_, List.getElem?_eq_getElem (by rw [mi.len]; omega)⟩
    refine ⟨_, rfl, l, xs, rfl, SqL.of (s4 _ _ hX), _, _, rfl, rfl, _, rfl, _, _, rfl, rfl, ?_⟩
    have ei : ((xs.length : Nat) : Int) - 1 - (0 + (j : Nat)) = (at_ : Nat) := by omega
    refine ⟨_, rfl, _, rfl, D, _, _, .bl b, rfl, rfl, SqL.of h4, at_of (j := at_) ei (by rw [List.getElem?_map, hb]; rfl), b, rfl, ?_⟩
    cases b with
    | false =>
      refine iteN (by decide) (iteN (by decide) ?_)
      exact ⟨_, _, m, rfl, s4, h4, mi.skip eat fun z => by rw [hb] at z; cases z⟩
    | true =>
      refine iteP rfl ?_
      refine ⟨_, rfl, _, rfl, l, xs, _, _, rfl, rfl, SqL.of (s4 _ _ hX), at_of (j := at_) ei hu, u, _, rfl, SqT.of hU4, rfl, _, rfl, ?_⟩
      cases p with
      | num v => exact iteN (by simp [Part.vals]) ⟨_, _, m, rfl, s4, h4, mi.skip eat fun _ o a b e => by rw [hp] at e; cases e⟩
      | get v => exact iteN (by simp [Part.vals]) ⟨_, _, m, rfl, s4, h4, mi.skip eat fun _ o a b e => by rw [hp] at e; cases e⟩
      | op o x y =>
        have xy := wf _ _ _ _ hp
        refine iteP (dT rfl) ?_
        have hX4 := s4 _ _ hX
        have lD : l ≠ D := ne_of_none hX hD
        have uD : u ≠ D := ne_of_none hU hD
        refine ⟨_, rfl, _, rfl, _, rfl, l, xs, _, _, rfl, rfl, SqL.of hX4, at_of (j := at_) ei hu, u, _, 1, _, rfl, rfl, SqT.of hU4, rfl, D, _, _, x, rfl, rfl, h4, ixN_nat (by rw [List.length_map, mi.len]; omega), ?_⟩
        rw [← List.map_set (f := V.bl) (l := m) (a := true)]
        have hX5 : upd H4 D (.lst ((m.set x true).map V.bl)) l = some (.lst xs) := by rw [upd_ne lD]; exact hX4
        have hU5 : upd H4 D (.lst ((m.set x true).map V.bl)) u = some (.tup (Part.op o x y).vals) := by rw [upd_ne uD]; exact hU4
        refine ⟨_, rfl, _, rfl, _, rfl, l, xs, _, _, rfl, rfl, SqL.of hX5, at_of (j := at_) ei hu, u, _, 2, _, rfl, rfl, SqT.of hU5, rfl, D, _, _, y, rfl, rfl, upd_same, ixN_nat (by rw [List.length_map, List.length_set, mi.len]; omega), ?_⟩
        rw [← List.map_set (f := V.bl) (a := true)]
        refine ⟨_, _, _, rfl, fun b o e => ?_, upd_same, mi.mark wf eat hb hp⟩
        rw [upd_ne (ne_of_none e hD), upd_ne (ne_of_none e hD)]; exact s4 _ _ e
  rintro σ' H4 ⟨v4, v5, m, rfl, s4, h4, mi⟩
  rw [Int.toNat_natCast, ex] at mi
  -- the row of what is marked
  refine ⟨_, rfl, l, xs, rfl, SqL.of (s4 _ _ hX), _, rfl, by omega, by omega, fun G hG => ?_⟩
  have DG : D ≠ G := ne_of_none h4 hG
  refine lc_range (lo := 0) (n := ((xs.length : Nat) : Int).toNat) (fun j H5 => Same H4 H5 ∧ H5 G = some (.lst (natL (markL m j)))) ⟨same_new hG, upd_same⟩ ?_ ?_
  · rintro j H5 hj ⟨s5, h5⟩
    rw [Int.toNat_natCast, ex] at hj
    obtain ⟨b, hb⟩ : ∃ b, m[j]? = some b := ⟨_, List.getElem?_eq_getElem (by rw [mi.len]; omega)⟩
    refine ⟨rfl, _, rfl, _, rfl, D, _, _, .bl b, rfl, rfl, SqL.of (s5 _ _ h4), at_of (j := j) (by omega) (by rw [List.getElem?_map, hb]; rfl), b, rfl, ?_⟩
    cases b with
    | false => exact iteN (by decide) ⟨s5, by rw [markL_no (by rw [hb]; simp)]; exact h5⟩
    | true =>
      refine iteP rfl ⟨_, rfl, _, h5, by rw [natL_len]; have := markL_len m j; omega, fun b o e => ?_, ?_⟩
      · rw [upd_ne (ne_of_none e hG)]; exact s5 _ _ e
      · rw [upd_same, markL_yes hb]
        unfold natL
        rw [List.map_append, Int.zero_add]; rfl
  rintro H5 ⟨s5, h5⟩
  rw [Int.toNat_natCast, ex] at h5
  exact k H5 _ G (mi.done wf hi) (s4.trans s5) (s4.free hG) h5
end
end My

/-! LF -/
namespace My
open PySem L2
local macro_rules | `(tactic| walk_at "side") => `(tactic| first | with_reducible rfl | assumption | rfl | decide | omega | exact cpow1 (by omega) (by omega) | exact cdiv (by omega) (by omega) | exact two_pos _ | exact SqL.of (by assumption) | exact SqT.of (by assumption) | exact TyX.base (TyOf.int _) | exact TyX.base (TyOf.bl _) | exact TyX.base TyOf.non | exact scal_opt _ _ | exact k_ii | exact k_bi | exact k_ni | exact k_ib | exact k_bb | exact TyX.base (TyOf.lst (by assumption)) | exact k_ll | exact k_lt)
local macro_rules | `(tactic| walk_at "p") => `(tactic| repeat (first | refine And.intro (by walk_at "side") ?_ | apply Exists.intro | refine iteN (by assumption) ?_ | refine iteP (by assumption) ?_ | refine iteN (by decide) ?_ | refine iteP (by decide) ?_))

section
variable {P : Program} {w : World} {K : PySem.W.Frag} {mg : Str → Option Value} {base : Heap}
theorem LAt.updK {H : Hp} {l D : Addr} {ps : List Part} {kvs kvs' : List (Key × V)} (h : LAt H l ps) (hD : H D = some (.dK kvs)) : LAt (upd H D (.dK kvs')) l ps := by
  obtain ⟨ts, hl, _⟩ := id h
  exact h.keep (S := fun b => b = D) (fun b o e hb => by rw [upd_ne hb]; exact e) (ne_of hl hD (by intro z; cases z)) fun t xs e => ne_of e hD (by intro z; cases z)
def sp_law_moved (T : Txt K mg) : Sp := fun vs H Q _ => ∃ (l l2 : Addr) (n w2 : Nat) (ps qs : List Part) (i : Nat), vs = [.ref l, .int i, .int w2, .ref l2] ∧ LAt H l ps ∧ Ok n ps ∧ ps.length < 60 ∧ i < ps.length ∧ LAt H l2 qs ∧ 1 ≤ w2 ∧ w2 ≤ 12 ∧ Ok w2 qs ∧ qs.length ≤ 900 ∧ l ≠ l2 ∧
  (∀ (H' : Hp) (ks : List Nat), ReachL ps i ks → CInv w2 ps qs ks (mCarry w2 ps ks qs) → LAt H' l2 (mCarry w2 ps ks qs).1 → (∀ b o, H b = some o → b ≠ l2 → H' b = some o) → Q (.int (look (mCarry w2 ps ks qs).2 i : Nat)) H')
theorem sp_law_moved_len {T : Txt K mg} {vs H Q E} (h : sp_law_moved T vs H Q E) : vs.length = 4 := by obtain ⟨_, _, _, _, _, _, _, rfl, _⟩ := h; rfl
theorem ok_law_moved (T : Txt K mg) : FnOk P w K mg base CX0 4 T.f_law_moved T.fd_law_moved ["_law_parts", "_law_number", "_law_width", "_law_made"] (sp_law_moved T) := by
  have G_law_apply := ok_law_apply (P := P) (w := w) (base := base) T; have G_law_keep := ok_law_keep (P := P) (w := w) (base := base) T; have G_law_reach := ok_law_reach (P := P) (w := w) (base := base) T
  refine T.F_law_moved.ok sc_law_moved (fun vs H Q E h => sp_law_moved_len h) (fun cdv A outer s H vs Q E hr h => ?_)
  obtain ⟨l, l2, n, w2, ps, qs, i, rfl, hl, ok1, h60, hi, hl2, w1, w12, ok2, hq9, ll, k1⟩ := h
  obtain ⟨xs, hX, ex, hit⟩ := hl.item
  obtain ⟨ts2, hX2, _⟩ := id hl2
  refine ⟨_, (pss_cons (ps_set (i := 4) sc_law_moved.nd rfl (Or.inl rfl) pe_dnewK)
       (pss_cons (ps_for PassesOwn.never rfl (pi_list (pe_call G_law_reach (hr.mono (by decide)) rfl T.g_law_reach T.F_law_reach.kp T.b_law_reach .nil pass0 (pa_cons (pv 0) (pa_cons (pe_lst (pa_cons (pv 1) pa_nil)) pa_nil)))) (pg_name (i := 5) sc_law_moved.nd rfl (Or.inl rfl))
        (pss_cons (ps_set (i := 6) sc_law_moved.nd rfl (Or.inl rfl) (pe_ix ix_list (pv 0) (pv 5) (fun _ _ => rfl)))
       (pss_one (ps_if (pt_cmpR op_eq (pe_ix ix_tup (pv 6) pe_int (fun _ _ => rfl)) pe_str (nomark _))
        (pss_one (ps_dput (hu_of hr) (pv 4) (pv 5) (pe_call G_law_keep (hr.mono (by decide)) rfl T.g_law_keep T.F_law_keep.kp T.b_law_keep .nil pass0 (pa_cons (pv 3) (pa_cons (pe_tup (pa_cons pe_str (pa_cons (pe_op op_mod (pe_callTy call_intI (by rfl) T.n_int (by decide +kernel) (pa_cons (pe_ix ix_tup (pv 6) pe_int (fun _ _ => rfl)) pa_nil)) (pe_op op_shl pe_int (pv 2))) pa_nil))) pa_nil))) rfl))
        (pss_one (ps_if (pt_cmpR op_eq (pe_ix ix_tup (pv 6) pe_int (fun _ _ => rfl)) pe_str (nomark _))
        (pss_one (ps_dput (hu_of hr) (pv 4) (pv 5) (pe_call G_law_keep (hr.mono (by decide)) rfl T.g_law_keep T.F_law_keep.kp T.b_law_keep .nil pass0 (pa_cons (pv 3) (pa_cons (pv 6) pa_nil))) rfl))
        (pss_one (ps_dput (hu_of hr) (pv 4) (pv 5) (pe_call G_law_apply hr rfl T.g_law_apply T.F_law_apply.kp T.b_law_apply .nil pass0 (pa_cons (pv 3) (pa_cons (pv 2) (pa_cons (pe_ix ix_tup (pv 6) pe_int (fun _ _ => rfl)) (pa_cons (pe_dget (hu_of hr) (pv 4) (pe_ix ix_tup (pv 6) pe_int (fun _ _ => rfl)) (fun _ _ => rfl)) (pa_cons (pe_dget (hu_of hr) (pv 4) (pe_ix ix_tup (pv 6) pe_int (fun _ _ => rfl)) (fun _ _ => rfl)) pa_nil)))))) rfl))))))))
       (pss_one (ps_ret (pe_dget (hu_of hr) (pv 4) (pv 1) (fun _ _ => rfl)))))), ?_⟩
  have sz : sizeLine = 16777216 := sizeLine_eq
  -- turned = {}
  intro D hD
  have hD0 : H D = none := hD
  have s2 : Same H (upd H D (.dK [])) := same_new hD
  refine ⟨_, rfl, _, rfl, by show 1 ≤ sizeLine; decide, fun q hq => ?_⟩
  have s3 := s2.trans (same_new (o := .lst [.int (i : Nat)]) hq)
  have Dq : D ≠ q := ne_of_none upd_same hq
  refine ⟨l, q, ps, i, rfl, hl.news s3, ok1.wf, h60, upd_same, hi, fun H1 ks t hr s4 ht ht1 => ?_⟩
  have s14 := s3.trans s4
  have hD1 : H1 D = some (.dK []) := s4 _ _ (by rw [upd_ne Dq]; exact upd_same)
  have tD : t ≠ D := fun e => by rw [e, upd_ne Dq, upd_same] at ht; cases ht
  have tl2 : t ≠ l2 := fun e => by rw [e, s3 _ _ hX2] at ht; cases ht
  have ksl : ks.length ≤ ps.length := nodup_lt (hr.asc.imp fun h => Nat.ne_of_lt h) fun k hk => by have := ((hr.mem k).mp hk).le ok1.wf; omega
  refine ⟨t, rfl, ⟨_, SqL.of ht1⟩, ?_⟩
  refine for_list (K := K) (a := t) (xs := natL ks) (fun j σ' H3 => ∃ v5 v6 : Option V, σ' = [some (.ref l), some (.int (i : Nat)), some (.int (w2 : Nat)), some (.ref l2), some (.ref D), v5, v6] ∧
    LAt H3 l2 (mCarry w2 ps (ks.take j) qs).1 ∧ H3 D = some (.dK (dm (mCarry w2 ps (ks.take j) qs).2)) ∧ CInv w2 ps qs (ks.take j) (mCarry w2 ps (ks.take j) qs) ∧
    (∀ b o, H b = some o → b ≠ l2 → H3 b = some o) ∧ H3 t = some (.lst (natL ks))) ?_ ?_ ?_ ?_
  · exact ⟨none, none, rfl, hl2.news s14, hD1, CInv.start ok2, fun b o e _ => s14 b o e, ht1⟩
  · rintro j σ' H3 _ ⟨_, _, _, _, _, _, _, h⟩
    exact SqL.of h
  · rintro j y σ' H3 hj ⟨v5, v6, rfl, hP, hDm, ci, hk, hT3⟩
    unfold natL at hj
    rw [List.getElem?_map] at hj
    obtain ⟨k, hkj, rfl⟩ := Option.map_eq_some_iff.mp hj
    have hk0 := List.mem_of_getElem? hkj
    have hkr := (hr.mem k).mp hk0
    have hkn : k < ps.length := by have := hkr.le ok1.wf; omega
    obtain ⟨p, hpk⟩ : ∃ p, ps[k]? = some p := ⟨_, List.getElem?_eq_getElem hkn⟩
    have et : ks.take (j + 1) = ks.take j ++ [k] := take_snoc hkj
    have em : mCarry w2 ps (ks.take (j + 1)) qs = cstep w2 ps (mCarry w2 ps (ks.take j) qs) k := by unfold mCarry; rw [et, List.foldl_append]; rfl
    have hab : ∀ o a b, p = Part.op o a b → a ∈ ks.take j ∧ b ∈ ks.take j := fun o a b e => by
      subst e
      have := ok1.wf _ _ _ _ hpk
      exact ⟨asc_take hr.asc hkj ((hr.mem a).mpr (.left hkr hpk)) this.1, asc_take hr.asc hkj ((hr.mem b).mpr (.right hkr hpk)) this.2⟩
    have ci2 := ci.step w1 ok1.get hpk hab
    have hnk : k ∉ (mCarry w2 ps (ks.take j) qs).2.map (fun (x : Nat × Nat) => x.1) := by
      rw [ci.keys]; exact not_in_take hr.asc hkj
    have hlen : (mCarry w2 ps (ks.take j) qs).1.length < 999 := by have := ci.len; rw [List.length_take] at this; omega
    obtain ⟨u, hu, hU⟩ := hit k p hpk
    have hX3 := hk _ _ hX ll
    have ul2 : u ≠ l2 := ne_of hU hX2 (by intro z; cases z)
    have hU3 := hk _ _ hU ul2
    -- part = parts[at]
    refine ⟨_, rfl, _, rfl, l, xs, _, _, rfl, rfl, SqL.of hX3, at_of rfl hu, ?_⟩
    have Dl2 : D ≠ l2 := fun e => by rw [e, hX2] at hD0; cases hD0
    have hz : (dm (mCarry w2 ps (ks.take j) qs).2).length < sizeLine := by
      have : (mCarry w2 ps (ks.take j) qs).2.length = (ks.take j).length := by have := congrArg List.length ci.keys; rw [List.length_map] at this; exact this
      rw [dm_len, this, List.length_take]; omega
    have fin : ∀ (H4 : Hp) (v5 v6 : Option V), LAt H4 l2 (cstepR w2 ps (mCarry w2 ps (ks.take j) qs) k).2 → (∀ b o, H3 b = some o → b ≠ l2 → H4 b = some o) →
        ∃ v5' v6' : Option V, [some (V.ref l), some (.int (i : Nat)), some (.int (w2 : Nat)), some (.ref l2), some (.ref D), v5, v6] = [some (.ref l), some (.int (i : Nat)), some (.int (w2 : Nat)), some (.ref l2), some (.ref D), v5', v6'] ∧
        LAt (upd H4 D (.dK (putK (dm (mCarry w2 ps (ks.take j) qs).2) (Sum.inl ((k : Nat) : Int)) (.int ((cstepR w2 ps (mCarry w2 ps (ks.take j) qs) k).1 : Nat))))) l2 (mCarry w2 ps (ks.take (j + 1)) qs).1 ∧
        upd H4 D (.dK (putK (dm (mCarry w2 ps (ks.take j) qs).2) (Sum.inl ((k : Nat) : Int)) (.int ((cstepR w2 ps (mCarry w2 ps (ks.take j) qs) k).1 : Nat)))) D = some (.dK (dm (mCarry w2 ps (ks.take (j + 1)) qs).2)) ∧
        CInv w2 ps qs (ks.take (j + 1)) (mCarry w2 ps (ks.take (j + 1)) qs) ∧
        (∀ b o, H b = some o → b ≠ l2 → upd H4 D (.dK (putK (dm (mCarry w2 ps (ks.take j) qs).2) (Sum.inl ((k : Nat) : Int)) (.int ((cstepR w2 ps (mCarry w2 ps (ks.take j) qs) k).1 : Nat)))) b = some o) ∧
        upd H4 D (.dK (putK (dm (mCarry w2 ps (ks.take j) qs).2) (Sum.inl ((k : Nat) : Int)) (.int ((cstepR w2 ps (mCarry w2 ps (ks.take j) qs) k).1 : Nat)))) t = some (.lst (natL ks)) := by
      intro H4 v5 v6 hp4 hk4
      have hD4 := hk4 _ _ hDm Dl2
      refine ⟨v5, v6, rfl, ?_, ?_, by rw [em, et]; exact ci2, fun b o e h1 => ?_, ?_⟩
      · rw [em]; exact hp4.updK hD4
      · rw [upd_same, dm_put hnk, em]; rfl
      · rw [upd_ne (ne_of_none e hD0)]; exact hk4 _ _ (hk _ _ e h1) h1
      · rw [upd_ne tD]; exact hk4 _ _ hT3 tl2
    have getm : ∀ (H4 : Hp), Same H3 H4 → ∀ z, z ∈ ks.take j → DGet H4 D (.int (z : Nat)) (some (.int (look (mCarry w2 ps (ks.take j) qs).2 z : Nat))) := fun H4 s z hz => by
      have dg := DGet.k (k := Sum.inl ((z : Nat) : Int)) (s _ _ hDm)
      rw [valV_dm, if_pos (by rw [ci.keys]; exact hz)] at dg
      exact dg
    refine ⟨_, rfl, u, _, 0, _, rfl, rfl, SqT.of hU3, tag0 p, rfl, _, rfl, ?_⟩
    cases p with
    | num v =>
      have er : cstepR w2 ps (mCarry w2 ps (ks.take j) qs) k = mk (mCarry w2 ps (ks.take j) qs).1 (.num (v % 2 ^ w2)) := by unfold cstepR; rw [hpk]
      have pw : v % (1 * 2 ^ (w2 : Int).toNat) = v % 2 ^ w2 := by rw [Int.one_mul, Int.toNat_natCast]
      refine iteP (dT rfl) ?_
      refine ⟨_, rfl, _, rfl, u, _, 1, _, rfl, rfl, SqT.of hU3, rfl, v, rfl, _, rfl, _, _, rfl, rfl, cpow1 (by omega) (by omega), _, _, rfl, rfl, two_pos _, by show 2 ≤ sizeLine; decide, fun g hg => ?_⟩
      have s5 := same_new (o := .tup [.str "num", .int (v % (1 * 2 ^ (w2 : Int).toNat))]) hg
      have hg5 : upd H3 g (.tup [.str "num", .int (v % (1 * 2 ^ (w2 : Int).toNat))]) g = some (.tup (Part.num (v % 2 ^ w2)).vals) := by rw [pw]; exact upd_same
      generalize upd H3 g (.tup [.str "num", .int (v % (1 * 2 ^ (w2 : Int).toNat))]) = H5 at *
      refine ⟨l2, g, _, _, rfl, hP.news s5, hg5, by omega, fun H4 hp4 hk4 => ?_⟩
      rw [← er] at hp4 ⊢
      have hk4' : ∀ b o, H3 b = some o → b ≠ l2 → H4 b = some o := fun b o e h1 => hk4 _ _ (s5 _ _ e) h1
      exact ⟨_, rfl, _, rfl, D, _, rfl, DPut.k (k := Sum.inl ((k : Nat) : Int)) (hk4' _ _ hDm Dl2) hz, fin H4 _ _ hp4 hk4'⟩
    | get v =>
      have er : cstepR w2 ps (mCarry w2 ps (ks.take j) qs) k = mk (mCarry w2 ps (ks.take j) qs).1 (.get v) := by unfold cstepR; rw [hpk]
      refine iteN (by show ¬ decide (V.str (Str.ofString "get") = V.str "num") = true; decide +kernel) ?_
      refine ⟨_, rfl, u, _, 0, _, rfl, rfl, SqT.of hU3, rfl, rfl, _, rfl, iteP (dT rfl) ?_⟩
      refine ⟨_, rfl, _, rfl, l2, u, _, _, rfl, hP, hU3, by omega, fun H4 hp4 hk4 => ?_⟩
      rw [← er] at hp4 ⊢
      exact ⟨_, rfl, _, rfl, D, _, rfl, DPut.k (k := Sum.inl ((k : Nat) : Int)) (hk4 _ _ hDm Dl2) hz, fin H4 _ _ hp4 hk4⟩
    | op o x y =>
      obtain ⟨hx', hy'⟩ := hab o x y rfl
      have er : cstepR w2 ps (mCarry w2 ps (ks.take j) qs) k = mApply w2 (mCarry w2 ps (ks.take j) qs).1 o (look (mCarry w2 ps (ks.take j) qs).2 x) (look (mCarry w2 ps (ks.take j) qs).2 y) := by unfold cstepR; rw [hpk]
      refine iteN (op_num_f o) ?_
      refine ⟨_, rfl, u, _, 0, _, rfl, rfl, SqT.of hU3, rfl, rfl, _, rfl, iteN (op_get_f o) ?_⟩
      refine ⟨_, rfl, _, rfl, _, rfl, u, _, 0, _, rfl, rfl, SqT.of hU3, rfl, _, rfl, _, rfl, u, _, 1, _, rfl, rfl, SqT.of hU3, rfl, D, _, rfl, getm H3 (Same.refl _) x hx', _, rfl, _, rfl, u, _, 2, _, rfl, rfl, SqT.of hU3, rfl, D, _, rfl, getm H3 (Same.refl _) y hy', ?_⟩
      refine ⟨l2, _, w2, o, _, _, rfl, hP, hlen, w12, ci.look hx', ci.look hy', fun H4 hp4 hk4 => ?_⟩
      rw [← er] at hp4 ⊢
      exact ⟨_, rfl, _, rfl, D, _, rfl, DPut.k (k := Sum.inl ((k : Nat) : Int)) (hk4 _ _ hDm Dl2) hz, fin H4 _ _ hp4 hk4⟩
  · rintro σ' H3 ⟨v5, v6, rfl, hP, hDm, ci, hk, hT3⟩
    rw [natL_len, List.take_length] at hP hDm ci
    have hik : i ∈ ks := (hr.mem i).mpr .self
    have dg := DGet.k (k := Sum.inl ((i : Nat) : Int)) hDm
    rw [valV_dm, if_pos (by rw [ci.keys]; exact hik)] at dg
    refine ⟨_, rfl, _, rfl, D, _, rfl, dg, ?_⟩
    exact k1 H3 ks hr ci hP hk
end
end My

/-! LG -/
namespace My
open PySem L2
local macro_rules | `(tactic| walk_at "side") => `(tactic| first | with_reducible rfl | assumption | rfl | decide | omega | exact cpow1 (by omega) (by omega) | exact cdiv (by omega) (by omega) | exact two_pos _ | exact SqL.of (by assumption) | exact SqT.of (by assumption) | exact TyX.base (TyOf.int _) | exact TyX.base (TyOf.bl _) | exact TyX.base TyOf.non | exact scal_opt _ _ | exact k_ii | exact k_bi | exact k_ni | exact k_ib | exact k_bb | exact TyX.base (TyOf.lst (by assumption)) | exact k_ll | exact k_lt)
local macro_rules | `(tactic| walk_at "p") => `(tactic| repeat (first | refine And.intro (by walk_at "side") ?_ | apply Exists.intro | refine iteN (by assumption) ?_ | refine iteP (by assumption) ?_ | refine iteN (by decide) ?_ | refine iteP (by decide) ?_))

section
variable {P : Program} {w : World} {K : PySem.W.Frag} {mg : Str → Option Value} {base : Heap}
/-- drawn rows: unknowns below u, operands ahead -/
structure Rows (n u : Nat) (plain : Bool) (rs : List Part) : Prop where
  ok : Ok n rs
  gets : ∀ (k : Nat) (g : Int), rs[k]? = some (Part.get g) → g < u
  pln : plain = true → ∀ (k : Nat) (o : Op) (a b : Nat), rs[k]? = some (Part.op o a b) → o ≠ .less ∧ o ≠ .same
def RowOk (n u : Nat) (plain : Bool) (len : Nat) (p : Part) : Prop := Ahead len p ∧ PartOk n p ∧ (∀ g, p = Part.get g → g < u) ∧ (plain = true → ∀ o a b, p = Part.op o a b → o ≠ .less ∧ o ≠ .same)
theorem rows_nil (n u : Nat) (plain : Bool) : Rows n u plain [] := ⟨ok_nil n, fun _ _ e => by simp at e, fun _ _ _ _ _ e => by simp at e⟩
theorem snoc_at {ps : List Part} {p q : Part} {k : Nat} (e : (ps ++ [p])[k]? = some q) : ps[k]? = some q ∨ (k = ps.length ∧ q = p) := by
  by_cases hk : k < ps.length
  · rw [List.getElem?_append_left hk] at e; exact .inl e
  · have hl := (List.getElem?_eq_some_iff.mp e).1
    rw [List.length_append, List.length_singleton] at hl
    have ek : k = ps.length := by omega
    subst ek
    rw [List.getElem?_append_right (Nat.le_refl _), Nat.sub_self] at e
    cases e
    exact .inr ⟨rfl, rfl⟩
theorem Rows.snoc {n u : Nat} {plain : Bool} {rs : List Part} {p : Part} (h : Rows n u plain rs) (hp : RowOk n u plain rs.length p) : Rows n u plain (rs ++ [p]) := by
  obtain ⟨h1, h2, h3, h4⟩ := hp
  refine ⟨ok_snoc h.ok h1 h2, fun k g e => ?_, fun q k o a b e => ?_⟩
  · rcases snoc_at e with e | ⟨_, e⟩
    · exact h.gets k g e
    · exact h3 g e.symm
  · rcases snoc_at e with e | ⟨_, e⟩
    · exact h.pln q k o a b e
    · exact h4 q o a b e.symm
/-- the rows at the list l, that was not there in H0 -/
structure RowsAt (H0 H : Hp) (p : Addr) (l : Addr) (rs : List Part) : Prop where
  at_ : LAt H l rs
  keep : ∀ b o, H0 b = some o → b ≠ p → H b = some o
theorem RowsAt.push {H0 H : Hp} {p l t : Addr} {rs : List Part} {r : Part} {xs : List V} (h : RowsAt H0 H p l rs) (h0 : H0 l = none) (hx : H l = some (.lst xs)) (ht : H t = some (.tup r.vals)) : RowsAt H0 (upd H l (.lst (xs ++ [.ref t]))) p l (rs ++ [r]) := by
  have tl : t ≠ l := ne_of ht hx (by intro z; cases z)
  refine ⟨h.at_.push hx (fun b ys e => by rw [upd_ne (ne_of e hx (by intro z; cases z))]; exact e) upd_same (by rw [upd_ne tl]; exact ht), fun b o e hb => ?_⟩
  rw [upd_ne (ne_of_none e h0)]; exact h.keep b o e hb
theorem RowsAt.news {H0 H H' : Hp} {p l : Addr} {rs : List Part} (h : RowsAt H0 H p l rs) (s : Same H H') : RowsAt H0 H' p l rs := ⟨h.at_.news s, fun b o e hb => s _ _ (h.keep b o e hb)⟩
theorem RowsAt.but {H0 H H' : Hp} {p l : Addr} {rs : List Part} {ns : List V} (h : RowsAt H0 H p l rs) (hp : H p = some (.lst ns)) (hl : l ≠ p) (s : ∀ b o, H b = some o → b ≠ p → H' b = some o) : RowsAt H0 H' p l rs :=
  ⟨h.at_.keep (S := fun b => b = p) (fun b o e hb => s b o e hb) hl fun t xs e => ne_of e hp (by intro z; cases z), fun b o e hb => s _ _ (h.keep b o e hb) hb⟩
theorem RowsAt.take {H0 H H' : Hp} {p q l : Addr} {rs : List Part} (h : RowsAt H0 H p l rs) (d : Dr H p q) (hl : l ≠ p) (s : ∀ b o, H b = some o → b ≠ p → H' b = some o) : RowsAt H0 H' p l rs := by
  obtain ⟨_, _, h1, _⟩ := d
  exact h.but h1 hl s
theorem Dr.upd {H : Hp} {p q l : Addr} {o : HO} (h : Dr H p q) (lp : l ≠ p) (lq : l ≠ q) : Dr (upd H l o) p q :=
  h.keep (S := fun b => b = l) (fun b o e hb => by rw [upd_ne hb]; exact e) (fun e => lp e.symm) (fun e => lq e.symm)
def plainL : List V := [.str "add", .str "xor", .str "sub", .str "and", .str "or"]
theorem op_at {v : Int} (h0 : 0 ≤ v) (h1 : v < 7) : ∃ o : Op, atI opList v = some (.str o.s) := by
  have : v = 0 ∨ v = 1 ∨ v = 2 ∨ v = 3 ∨ v = 4 ∨ v = 5 ∨ v = 6 := by omega
  rcases this with rfl | rfl | rfl | rfl | rfl | rfl | rfl
  · exact ⟨.add, rfl⟩
  · exact ⟨.xor, rfl⟩
  · exact ⟨.sub, rfl⟩
  · exact ⟨.and, rfl⟩
  · exact ⟨.same, rfl⟩
  · exact ⟨.or, rfl⟩
  · exact ⟨.less, rfl⟩
theorem plain_at {v : Int} (h0 : 0 ≤ v) (h1 : v < 5) : ∃ o : Op, atI plainL v = some (.str o.s) ∧ o ≠ .less ∧ o ≠ .same := by
  have : v = 0 ∨ v = 1 ∨ v = 2 ∨ v = 3 ∨ v = 4 := by omega
  rcases this with rfl | rfl | rfl | rfl | rfl
  · exact ⟨.add, rfl, by decide, by decide⟩
  · exact ⟨.xor, rfl, by decide, by decide⟩
  · exact ⟨.sub, rfl, by decide, by decide⟩
  · exact ⟨.and, rfl, by decide, by decide⟩
  · exact ⟨.or, rfl, by decide, by decide⟩
def sp_law_term_rows (T : Txt K mg) : Sp := fun vs H Q _ => ∃ (p q : Addr) (u n m : Nat) (plain : Bool), vs = [.ref p, .int u, .int n, .int m, .bl plain] ∧ Dr H p q ∧ p ≠ q ∧ 1 ≤ n ∧ n ≤ 12 ∧ u ≤ 3 ∧ m ≤ 9 ∧
  ∀ (H' : Hp) (l : Addr) (rs : List Part), H l = none → Dr H' p q → RowsAt H H' p l rs → Rows n u plain rs → rs.length = u + 1 + m → Q (.ref l) H'
theorem sp_law_term_rows_len {T : Txt K mg} {vs H Q E} (h : sp_law_term_rows T vs H Q E) : vs.length = 5 := by obtain ⟨_, _, _, _, _, _, rfl, _⟩ := h; rfl
theorem ok_law_term_rows (T : Txt K mg) : FnOk P w K mg base CX0 3 T.f_law_term_rows T.fd_law_term_rows ["_law_draws_here", "_law_unknowns", "_law_width", "_law_many", "_law_plain"] (sp_law_term_rows T) := by
  have G_law_ops := ok_law_ops (P := P) (w := w) (base := base) T; have G_law_take := ok_law_take (P := P) (w := w) (base := base) T; have G_law_word := ok_law_word (P := P) (w := w) (base := base) T
  refine T.F_law_term_rows.ok sc_law_term_rows (fun vs H Q E h => sp_law_term_rows_len h) (fun cdv A outer s H vs Q E hr h => ?_)
  obtain ⟨p, q, u, n, m, plain, rfl, hd, hpq, n1, n12, u3, m9, k⟩ := h
  refine ⟨_, (pss_cons (ps_set (i := 5) sc_law_term_rows.nd rfl (Or.inl rfl) (pe_lst pa_nil))
       (pss_cons (ps_for PassesOwn.never rfl (pi_range1 (by rfl) T.n_range (pa_cons (pv 1) pa_nil)) (pg_name (i := 6) sc_law_term_rows.nd rfl (Or.inl rfl))
        (pss_one (ps_expr (pe_bm PySem.F.plainAttrs_list PySem.F.slot_list_append PySem.F.type_list_append mt_append (pv 5) (pa_cons (pe_tup (pa_cons pe_str (pa_cons (pv 6) pa_nil))) pa_nil)))))
       (pss_cons (ps_expr (pe_bm PySem.F.plainAttrs_list PySem.F.slot_list_append PySem.F.type_list_append mt_append (pv 5) (pa_cons (pe_tup (pa_cons pe_str (pa_cons (pe_call G_law_word hr rfl T.g_law_word T.F_law_word.kp T.b_law_word .nil pass0 (pa_cons (pv 0) (pa_cons (pv 2) pa_nil))) pa_nil))) pa_nil)))
       (pss_cons (ps_for PassesOwn.never rfl (pi_range1 (by rfl) T.n_range (pa_cons (pv 3) pa_nil)) (pg_name (i := 7) sc_law_term_rows.nd rfl (Or.inl rfl))
        (pss_cons (ps_set (i := 8) sc_law_term_rows.nd rfl (Or.inl rfl) (pe_call0 G_law_ops (hr.mono (by decide)) rfl T.g_law_ops T.F_law_ops.kp T.b_law_ops .nil pass0))
       (Evl.pss_cut (ps_if (pt_val (pv 4))
        (pss_one (ps_set (i := 8) sc_law_term_rows.nd rfl (Or.inl rfl) (pe_lst (pa_cons pe_str (pa_cons pe_str (pa_cons pe_str (pa_cons pe_str (pa_cons pe_str pa_nil))))))))
        pss_nil)
       (pss_cons (ps_set (i := 9) sc_law_term_rows.nd rfl (Or.inl rfl) (pe_ix ix_list (pv 8) (pe_call G_law_take (hr.mono (by decide)) rfl T.g_law_take T.F_law_take.kp T.b_law_take .nil pass0 (pa_cons (pv 0) (pa_cons (pe_callB call_lenL (by rfl) T.n_len (by decide +kernel) (pa_cons (pv 8) pa_nil)) pa_nil))) (fun _ _ => rfl)))
       (pss_cons (ps_set (i := 10) sc_law_term_rows.nd rfl (Or.inl rfl) (pe_op op_sub (pe_op op_sub (pe_callB call_lenL (by rfl) T.n_len (by decide +kernel) (pa_cons (pv 5) pa_nil)) pe_int) (pe_call G_law_take (hr.mono (by decide)) rfl T.g_law_take T.F_law_take.kp T.b_law_take .nil pass0 (pa_cons (pv 0) (pa_cons (pe_callB (call_min2 rfl) (by rfl) T.n_min (by decide +kernel) (pa_cons pe_int (pa_cons (pe_callB call_lenL (by rfl) T.n_len (by decide +kernel) (pa_cons (pv 5) pa_nil)) pa_nil))) pa_nil)))))
       (pss_cons (ps_set (i := 11) sc_law_term_rows.nd rfl (Or.inl rfl) (pe_call G_law_take (hr.mono (by decide)) rfl T.g_law_take T.F_law_take.kp T.b_law_take .nil pass0 (pa_cons (pv 0) (pa_cons (pe_callB call_lenL (by rfl) T.n_len (by decide +kernel) (pa_cons (pv 5) pa_nil)) pa_nil))))
       (pss_one (ps_if (pt_cmpR op_eq (pe_call G_law_take (hr.mono (by decide)) rfl T.g_law_take T.F_law_take.kp T.b_law_take .nil pass0 (pa_cons (pv 0) (pa_cons pe_int pa_nil))) pe_int (nomark _))
        (pss_one (ps_expr (pe_bm PySem.F.plainAttrs_list PySem.F.slot_list_append PySem.F.type_list_append mt_append (pv 5) (pa_cons (pe_tup (pa_cons pe_str (pa_cons (pe_call G_law_word hr rfl T.g_law_word T.F_law_word.kp T.b_law_word .nil pass0 (pa_cons (pv 0) (pa_cons (pv 2) pa_nil))) pa_nil))) pa_nil))))
        (pss_one (ps_expr (pe_bm PySem.F.plainAttrs_list PySem.F.slot_list_append PySem.F.type_list_append mt_append (pv 5) (pa_cons (pe_tup (pa_cons (pv 9) (pa_cons (pv 10) (pa_cons (pv 11) pa_nil)))) pa_nil))))))))))))
       (pss_one (ps_ret (pv 5))))))), ?_⟩
  have sz : sizeLine = 16777216 := sizeLine_eq
  refine ⟨Nat.zero_le _, fun l hl => ?_⟩
  have s1 := same_new (o := .lst []) hl
  have lp : l ≠ p := by obtain ⟨_, _, h1, _⟩ := hd; exact fun e => by rw [e, h1] at hl; cases hl
  have lq : l ≠ q := by obtain ⟨_, _, _, h1, _⟩ := hd; exact fun e => by rw [e, h1] at hl; cases hl
  -- one row put at the end
  have push : ∀ (H1 : Hp) (rs : List Part) (r : Part) (t : Addr) (xs : List V), Dr H1 p q → RowsAt H H1 p l rs → Rows n u plain rs → RowOk n u plain rs.length r → H1 l = some (.lst xs) → H1 t = none →
      Dr (upd (upd H1 t (.tup r.vals)) l (.lst (xs ++ [.ref t]))) p q ∧ RowsAt H (upd (upd H1 t (.tup r.vals)) l (.lst (xs ++ [.ref t]))) p l (rs ++ [r]) ∧ Rows n u plain (rs ++ [r]) := by
    intro H1 rs r t xs d ra ro rk hX ht
    have s := same_new (o := .tup r.vals) ht
    exact ⟨(d.news s).upd lp lq, (ra.news s).push hl (s _ _ hX) upd_same, ro.snoc rk⟩
  refine ⟨_, rfl, u, rfl, by omega, by omega, ?_⟩
  refine for_range (lo := 0) (n := ((u : Nat) : Int).toNat) (fun j σ' H1 => ∃ (v6 : Option V) (rs : List Part), σ' = [some (.ref p), some (.int (u : Nat)), some (.int (n : Nat)), some (.int (m : Nat)), some (.bl plain), some (.ref l), v6, none, none, none, none, none] ∧ Dr H1 p q ∧ RowsAt H H1 p l rs ∧ Rows n u plain rs ∧ rs.length = j)
    ⟨none, [], rfl, hd.news s1, ⟨⟨[], upd_same, rfl, fun i q e => by simp at e⟩, fun b o e _ => s1 b o e⟩, rows_nil _ _ _, rfl⟩ ?_ ?_
  · rintro j σ' H1 hj ⟨v6, rs, rfl, d1, ra, ro, hlen⟩
    rw [Int.toNat_natCast] at hj
    obtain ⟨xs, hX, ex, _⟩ := ra.at_.item
    refine ⟨_, rfl, .inl ⟨rfl, _, SqL.of hX⟩, _, rfl, by show 2 ≤ sizeLine; decide, fun t ht => ?_⟩
    obtain ⟨d2, ra2, ro2⟩ := push H1 rs (.get (0 + (j : Nat))) t xs d1 ra ro ⟨trivial, ⟨by omega, by omega⟩, fun g e => (by cases e; omega), fun _ o a b e => by cases e⟩ hX ht
    have hX2 : upd H1 t (.tup (Part.get (0 + (j : Nat))).vals) l = some (.lst xs) := by rw [upd_ne (ne_of_none hX ht)]; exact hX
    exact ⟨l, _, _, rfl, rfl, hX2, by omega, some (.int (0 + (j : Nat))), _, rfl, d2, ra2, ro2, by simp [hlen]⟩
  rintro σ' H1 ⟨v6, rs, rfl, d1, ra, ro, hlen⟩
  rw [Int.toNat_natCast] at hlen
  obtain ⟨xs, hX, ex, _⟩ := ra.at_.item
  refine ⟨_, rfl, .inl ⟨rfl, _, SqL.of hX⟩, _, rfl, _, rfl, p, q, n, rfl, d1, hpq, n12, fun H2 v v0 v1 d2 k2 => ?_⟩
  have ra2 := ra.take d1 lp k2
  have hX2 := k2 _ _ hX lp
  refine ⟨by show 2 ≤ sizeLine; decide, fun t ht => ?_⟩
  obtain ⟨d3, ra3, ro3⟩ := push H2 rs (.num v) t xs d2 ra2 ro ⟨trivial, ⟨v0, v1⟩, fun g e => (by cases e), fun _ o a b e => by cases e⟩ hX2 ht
  have hX3 : upd H2 t (.tup (Part.num v).vals) l = some (.lst xs) := by rw [upd_ne (ne_of_none hX2 ht)]; exact hX2
  refine ⟨l, _, _, rfl, rfl, hX3, by omega, ?_⟩
  -- the operations
  refine ⟨_, rfl, m, rfl, by omega, by omega, ?_⟩
  refine for_range (lo := 0) (n := ((m : Nat) : Int).toNat) (fun j σ' H1 => ∃ (v7 v8 v9 v10 v11 : Option V) (rs : List Part), σ' = [some (.ref p), some (.int (u : Nat)), some (.int (n : Nat)), some (.int (m : Nat)), some (.bl plain), some (.ref l), v6, v7, v8, v9, v10, v11] ∧ Dr H1 p q ∧ RowsAt H H1 p l rs ∧ Rows n u plain rs ∧ rs.length = u + 1 + j)
    ⟨none, none, none, none, none, _, rfl, d3, ra3, ro3, by simp [hlen]⟩ ?_ ?_
  · rintro j σ' H1 hj ⟨v7, v8, v9, v10, v11, rs, rfl, d1, ra, ro, hlen⟩
    rw [Int.toNat_natCast] at hj
    obtain ⟨xs, hX, ex, _⟩ := ra.at_.item
    refine ⟨rfl, fun N hN => ?_⟩
    have sN := same_new (o := .lst opList) hN
    have pN : p ≠ N := by obtain ⟨_, _, h1, _⟩ := d1; exact ne_of_none h1 hN
    refine ⟨fun σ' H2 => ∃ (N : Addr) (L : List V), σ' = [some (.ref p), some (.int (u : Nat)), some (.int (n : Nat)), some (.int (m : Nat)), some (.bl plain), some (.ref l), v6, some (.int (0 + (j : Nat))), some (.ref N), v9, v10, v11] ∧ Same H1 H2 ∧ N ≠ p ∧ H2 N = some (.lst L) ∧ (L = opList ∧ plain = false ∨ L = plainL), ?_, ?_⟩
    · refine ⟨_, rfl, plain, rfl, ?_⟩
      cases plain with
      | true =>
        refine iteP rfl ⟨by show 5 ≤ sizeLine; decide, fun M hM => ?_⟩
        refine ⟨M, plainL, rfl, sN.trans (same_new hM), fun e => ?_, upd_same, .inr rfl⟩
        obtain ⟨_, _, h1, _⟩ := d1.news sN
        rw [e, h1] at hM; cases hM
      | false => exact iteN (by decide) ⟨N, opList, rfl, sN, pN.symm, upd_same, .inl ⟨rfl, rfl⟩⟩
    rintro σ' H2 ⟨N, L, rfl, s2, Np, hNL, hL⟩
    have d2 := d1.news s2
    have ra2 := ra.news s2
    have L5 : 0 < L.length := by rcases hL with ⟨e, _⟩ | e <;> rw [e] <;> decide
    refine ⟨_, rfl, _, rfl, _, rfl, N, L, rfl, SqL.of hNL, p, q, _, rfl, d2, hpq, by omega, fun H3 x x0 x1 d3 k3 => ?_⟩
    have ra3 := ra2.take d2 lp k3
    have hX3 := k3 _ _ (s2 _ _ hX) lp
    obtain ⟨o, ho, hpl⟩ : ∃ o : Op, atI L x = some (.str o.s) ∧ (plain = true → o ≠ .less ∧ o ≠ .same) := by
      rcases hL with ⟨e, e2⟩ | e
      · subst e
        obtain ⟨o, ho⟩ := op_at x0 x1
        exact ⟨o, ho, fun z => by rw [e2] at z; cases z⟩
      · subst e
        obtain ⟨o, ho, h1, h2⟩ := plain_at x0 x1
        exact ⟨o, ho, fun _ => ⟨h1, h2⟩⟩
    refine ⟨N, L, _, _, rfl, rfl, SqL.of (k3 _ _ hNL Np), ho, ?_⟩
    have hpos : (0 : Int) < if ((xs.length : Nat) : Int) < 3 then ((xs.length : Nat) : Int) else 3 := by split <;> omega
    refine ⟨_, rfl, l, xs, rfl, SqL.of hX3, _, _, rfl, rfl, _, rfl, _, rfl, l, xs, rfl, SqL.of hX3, _, _, rfl, p, q, _, rfl, d3, hpq, hpos, fun H4 y y0 y1 d4 k4 => ?_⟩
    have ra4 := ra3.take d3 lp k4
    have hX4 := k4 _ _ hX3 lp
    have y2 : y < (xs.length : Nat) := by split at y1 <;> omega
    obtain ⟨a, ea⟩ : ∃ a : Nat, ((xs.length : Nat) : Int) - 1 - y = (a : Nat) := ⟨xs.length - 1 - y.toNat, by omega⟩
    refine ⟨_, _, rfl, rfl, ?_⟩
    refine ⟨_, rfl, _, rfl, l, xs, rfl, SqL.of hX4, p, q, _, rfl, d4, hpq, by omega, fun H5 z z0 z1 d5 k5 => ?_⟩
    have ra5 := ra4.take d4 lp k5
    have hX5 := k5 _ _ hX4 lp
    obtain ⟨b, rfl⟩ := Int.eq_ofNat_of_zero_le z0
    -- a number, or an operation
    refine ⟨_, rfl, p, q, _, rfl, d5, hpq, by decide, fun H6 c c0 c1 d6 k6 => ⟨rfl, _, rfl, ?_⟩⟩
    have ra6 := ra5.take d5 lp k6
    have hX6 := k6 _ _ hX5 lp
    by_cases hc : c = 5
    · refine iteP (dT (by rw [hc])) ?_
      refine ⟨_, rfl, .inl ⟨rfl, _, SqL.of hX6⟩, _, rfl, _, rfl, p, q, n, rfl, d6, hpq, n12, fun H7 v v0 v1 d7 k7 => ?_⟩
      have ra7 := ra6.take d6 lp k7
      have hX7 := k7 _ _ hX6 lp
      refine ⟨by show 2 ≤ sizeLine; decide, fun t ht => ?_⟩
      obtain ⟨d8, ra8, ro8⟩ := push H7 rs (.num v) t xs d7 ra7 ro ⟨trivial, ⟨v0, v1⟩, fun g e => (by cases e), fun _ o a b e => by cases e⟩ hX7 ht
      have hX8 : upd H7 t (.tup (Part.num v).vals) l = some (.lst xs) := by rw [upd_ne (ne_of_none hX7 ht)]; exact hX7
      exact ⟨l, _, _, rfl, rfl, hX8, by omega, _, _, _, _, _, _, rfl, d8, ra8, ro8, by rw [List.length_append, List.length_singleton]; omega⟩
    · refine iteN (dF (by intro e; injection e with e; exact hc e)) ?_
      refine ⟨_, rfl, .inl ⟨rfl, _, SqL.of hX6⟩, _, rfl, _, rfl, _, rfl, by show 3 ≤ sizeLine; decide, fun t ht => ?_⟩
      have et : (HO.tup [V.str o.s, V.int (((xs.length : Nat) : Int) - 1 - y), V.int (b : Nat)]) = HO.tup (Part.op o a b).vals := by rw [ea]; rfl
      obtain ⟨d8, ra8, ro8⟩ := push H6 rs (.op o a b) t xs d6 ra6 ro ⟨⟨by omega, by omega⟩, trivial, fun g e => (by cases e), fun hp o' a' b' e => (by cases e; exact hpl hp)⟩ hX6 ht
      have hX8 : upd H6 t (.tup (Part.op o a b).vals) l = some (.lst xs) := by rw [upd_ne (ne_of_none hX6 ht)]; exact hX6
      rw [← et] at d8 ra8 hX8
      exact ⟨l, _, _, rfl, rfl, hX8, by omega, _, _, _, _, _, _, rfl, d8, ra8, ro8, by rw [List.length_append, List.length_singleton]; omega⟩
  rintro σ' H4 ⟨v7, v8, v9, v10, v11, rs, rfl, d4, ra4, ro4, hlen4⟩
  rw [Int.toNat_natCast] at hlen4
  exact ⟨_, rfl, k H4 l rs hl d4 ra4 ro4 hlen4⟩
end
end My

/-! LH -/
namespace My
open PySem L2
local macro_rules | `(tactic| walk_at "side") => `(tactic| first | with_reducible rfl | assumption | rfl | decide | omega | exact cpow1 (by omega) (by omega) | exact cdiv (by omega) (by omega) | exact two_pos _ | exact SqL.of (by assumption) | exact SqT.of (by assumption) | exact TyX.base (TyOf.int _) | exact TyX.base (TyOf.bl _) | exact TyX.base TyOf.non | exact scal_opt _ _ | exact k_ii | exact k_bi | exact k_ni | exact k_ib | exact k_bb | exact TyX.base (TyOf.lst (by assumption)) | exact k_ll | exact k_lt)
local macro_rules | `(tactic| walk_at "p") => `(tactic| repeat (first | refine And.intro (by walk_at "side") ?_ | apply Exists.intro | refine iteN (by assumption) ?_ | refine iteP (by assumption) ?_ | refine iteN (by decide) ?_ | refine iteP (by decide) ?_))

section
variable {P : Program} {w : World} {K : PySem.W.Frag} {mg : Str → Option Value} {base : Heap}
/-- a pair that undoes itself -/
def PairO (t b : Op) : Prop := t = .add ∧ b = .sub ∨ t = .xor ∧ b = .xor
def sp_law_pair_rows (T : Txt K mg) : Sp := fun vs H Q _ => ∃ (p q l : Addr) (rs : List Part), vs = [.ref p, .ref l] ∧ Dr H p q ∧ p ≠ q ∧ LAt H l rs ∧ l ≠ p ∧ l ≠ q ∧ 0 < rs.length ∧ rs.length < 100 ∧
  ∀ (H' : Hp) (x y : Nat) (t b : Op), x < rs.length → y < rs.length → PairO t b → Dr H' p q → LAt H' l (rs ++ [.op t x y] ++ [.op b rs.length y]) → (∀ b o, H b = some o → b ≠ p → b ≠ l → H' b = some o) → Q (.int x) H'
theorem sp_law_pair_rows_len {T : Txt K mg} {vs H Q E} (h : sp_law_pair_rows T vs H Q E) : vs.length = 2 := by obtain ⟨_, _, _, _, rfl, _⟩ := h; rfl
theorem LAt.take {H H' : Hp} {p q l : Addr} {rs : List Part} (h : LAt H l rs) (d : Dr H p q) (hl : l ≠ p) (s : ∀ b o, H b = some o → b ≠ p → H' b = some o) : LAt H' l rs := by
  obtain ⟨_, _, h1, _⟩ := d
  exact h.keep (S := fun b => b = p) (fun b o e hb => s b o e hb) hl fun t xs e => ne_of e h1 (by intro z; cases z)
theorem ok_law_pair_rows (T : Txt K mg) : FnOk P w K mg base CX0 2 T.f_law_pair_rows T.fd_law_pair_rows ["_law_draws_here", "_law_rows"] (sp_law_pair_rows T) := by
  have G_law_take := ok_law_take (P := P) (w := w) (base := base) T
  refine T.F_law_pair_rows.ok sc_law_pair_rows (fun vs H Q E h => sp_law_pair_rows_len h) (fun cdv A outer s H vs Q E hr h => ?_)
  obtain ⟨p, q, l, rs, rfl, hd, hpq, hl, lp, lq, r0, r1, k⟩ := h
  refine ⟨_, (pss_cons (ps_set (i := 2) sc_law_pair_rows.nd rfl (Or.inl rfl) (pe_call G_law_take hr rfl T.g_law_take T.F_law_take.kp T.b_law_take .nil pass0 (pa_cons (pv 0) (pa_cons (pe_callB call_lenL (by rfl) T.n_len (by decide +kernel) (pa_cons (pv 1) pa_nil)) pa_nil))))
       (pss_cons (ps_set (i := 3) sc_law_pair_rows.nd rfl (Or.inl rfl) (pe_call G_law_take hr rfl T.g_law_take T.F_law_take.kp T.b_law_take .nil pass0 (pa_cons (pv 0) (pa_cons (pe_callB call_lenL (by rfl) T.n_len (by decide +kernel) (pa_cons (pv 1) pa_nil)) pa_nil))))
       (pss_cons (ps_set (i := 4) sc_law_pair_rows.nd rfl (Or.inl rfl) (pe_ix ix_list (pe_lst (pa_cons pe_str (pa_cons pe_str pa_nil))) (pe_call G_law_take hr rfl T.g_law_take T.F_law_take.kp T.b_law_take .nil pass0 (pa_cons (pv 0) (pa_cons pe_int pa_nil))) (fun _ _ => rfl)))
       (pss_cons (ps_set (i := 5) sc_law_pair_rows.nd rfl (Or.inl rfl) pe_str)
       (Evl.pss_cut (ps_if (pt_cmpR op_eq (pv 4) pe_str (nomark _))
        (pss_one (ps_set (i := 5) sc_law_pair_rows.nd rfl (Or.inl rfl) pe_str))
        pss_nil)
       (pss_cons (ps_expr (pe_bm PySem.F.plainAttrs_list PySem.F.slot_list_append PySem.F.type_list_append mt_append (pv 1) (pa_cons (pe_tup (pa_cons (pv 4) (pa_cons (pv 2) (pa_cons (pv 3) pa_nil)))) pa_nil)))
       (pss_cons (ps_expr (pe_bm PySem.F.plainAttrs_list PySem.F.slot_list_append PySem.F.type_list_append mt_append (pv 1) (pa_cons (pe_tup (pa_cons (pv 5) (pa_cons (pe_op op_sub (pe_callB call_lenL (by rfl) T.n_len (by decide +kernel) (pa_cons (pv 1) pa_nil)) pe_int) (pa_cons (pv 3) pa_nil)))) pa_nil)))
       (pss_one (ps_ret (pv 2)))))))))), ?_⟩
  have sz : sizeLine = 16777216 := sizeLine_eq
  obtain ⟨xs, hX, ex, _⟩ := hl.item
  refine ⟨_, rfl, _, rfl, l, xs, rfl, SqL.of hX, p, q, _, rfl, hd, hpq, by omega, fun H1 x x0 x1 d1 k1 => ?_⟩
  have hX1 := k1 _ _ hX lp
  refine ⟨_, rfl, _, rfl, l, xs, rfl, SqL.of hX1, p, q, _, rfl, d1, hpq, by omega, fun H2 y y0 y1 d2 k2 => ?_⟩
  have hX2 := k2 _ _ hX1 lp
  have hl2 := (hl.take hd lp k1).take d1 lp k2
  have f2 : ∀ b o, H b = some o → b ≠ p → H2 b = some o := fun b o e h => k2 _ _ (k1 _ _ e h) h
  obtain ⟨x, rfl⟩ := Int.eq_ofNat_of_zero_le x0
  obtain ⟨y, rfl⟩ := Int.eq_ofNat_of_zero_le y0
  refine ⟨by show 2 ≤ sizeLine; decide, fun M hM => ?_⟩
  have s3 := same_new (o := .lst [.str "add", .str "xor"]) hM
  have Mp : M ≠ p := by obtain ⟨_, _, h1, _⟩ := d2; exact fun e => by rw [e, h1] at hM; cases hM
  refine ⟨_, rfl, p, q, _, rfl, d2.news s3, hpq, by decide, fun H4 c c0 c1 d4 k4 => ?_⟩
  have hX4 := k4 _ _ (s3 _ _ hX2) lp
  have hl4 := (hl2.news s3).take (d2.news s3) lp k4
  have f4 : ∀ b o, H b = some o → b ≠ p → H4 b = some o := fun b o e h => k4 _ _ (s3 _ _ (f2 _ _ e h)) h
  have hM4 := k4 M _ upd_same Mp
  obtain ⟨t, b, ht, htb⟩ : ∃ t b : Op, atI [V.str "add", .str "xor"] c = some (.str t.s) ∧ PairO t b := by
    have : c = 0 ∨ c = 1 := by omega
    rcases this with rfl | rfl
    · exact ⟨.add, .sub, rfl, .inl ⟨rfl, rfl⟩⟩
    · exact ⟨.xor, .xor, rfl, .inr ⟨rfl, rfl⟩⟩
  refine ⟨M, _, _, _, rfl, rfl, SqL.of hM4, ht, ?_⟩
  refine ⟨fun σ' H' => H' = H4 ∧ σ' = [some (.ref p), some (.ref l), some (.int (x : Nat)), some (.int (y : Nat)), some (.str t.s), some (.str b.s)], ?_, ?_⟩
  · refine ⟨_, rfl, rfl, _, rfl, ?_⟩
    rcases htb with ⟨rfl, rfl⟩ | ⟨rfl, rfl⟩
    · exact iteP (by decide +kernel) ⟨rfl, rfl⟩
    · exact iteN (by decide +kernel) ⟨rfl, rfl⟩
  rintro σ' H' ⟨rfl, rfl⟩
  refine ⟨_, rfl, .inl ⟨rfl, _, SqL.of hX4⟩, _, rfl, _, rfl, _, rfl, by show 3 ≤ sizeLine; decide, fun u hu => ?_⟩
  have s5 := same_new (o := .tup (Part.op t x y).vals) hu
  have hX5 := s5 _ _ hX4
  refine ⟨l, _, _, rfl, rfl, hX5, by omega, ?_⟩
  have ul : u ≠ l := fun e => by rw [e, hX4] at hu; cases hu
  have hl6 := (hl4.news s5).push (t := u) (p := .op t x y) hX5 (H' := upd (upd H' u (.tup (Part.op t x y).vals)) l (.lst (xs ++ [.ref u]))) (fun b ys e => by rw [upd_ne (ne_of e hX5 (by intro z; cases z))]; exact e) upd_same (by rw [upd_ne ul]; exact upd_same)
  have d6 := (d4.news s5).upd (o := .lst (xs ++ [.ref u])) lp lq
  have f6 : ∀ b o, H b = some o → b ≠ p → b ≠ l → upd (upd H' u (.tup (Part.op t x y).vals)) l (.lst (xs ++ [.ref u])) b = some o := fun b o e h h2 => by rw [upd_ne h2]; exact s5 _ _ (f4 _ _ e h)
  have hX6 : upd (upd H' u (.tup (Part.op t x y).vals)) l (.lst (xs ++ [.ref u])) l = some (.lst (xs ++ [.ref u])) := upd_same
  generalize hH6 : upd (upd H' u (.tup (Part.op t x y).vals)) l (.lst (xs ++ [.ref u])) = H6 at hl6 d6 f6 hX6
  have hH6' : upd (upd H' u (.tup [.str t.s, .int (x : Nat), .int (y : Nat)])) l (.lst (xs ++ [.ref u])) = H6 := hH6
  show _
  rw [hH6']
  clear hH6 hH6'
  refine ⟨_, rfl, .inl ⟨rfl, _, SqL.of hX6⟩, _, rfl, _, rfl, l, _, rfl, SqL.of hX6, _, _, rfl, rfl, _, rfl, by show 3 ≤ sizeLine; decide, fun v hv => ?_⟩
  have ee : (HO.tup [V.str b.s, V.int ((((xs ++ [V.ref u]).length : Nat) : Int) - 1), V.int (y : Nat)]) = HO.tup (Part.op b rs.length y).vals := by
    have : (((xs ++ [V.ref u]).length : Nat) : Int) - 1 = (rs.length : Nat) := by rw [List.length_append, List.length_singleton]; omega
    rw [this]; rfl
  have s7 := same_new (o := .tup (Part.op b rs.length y).vals) hv
  have hX7 := s7 _ _ hX6
  have vl : v ≠ l := fun e => by rw [e, hX6] at hv; cases hv
  have hl8 := (hl6.news s7).push (t := v) (p := .op b rs.length y) hX7 (H' := upd (upd H6 v (.tup (Part.op b rs.length y).vals)) l (.lst (xs ++ [.ref u] ++ [.ref v]))) (fun b ys e => by rw [upd_ne (ne_of e hX7 (by intro z; cases z))]; exact e) upd_same (by rw [upd_ne vl]; exact upd_same)
  have d8 := (d6.news s7).upd (o := .lst (xs ++ [.ref u] ++ [.ref v])) lp lq
  rw [← ee] at hX7 hl8 d8 s7
  refine ⟨l, _, _, rfl, rfl, hX7, by simp; omega, ?_⟩
  refine ⟨_, rfl, k _ x y t b (by omega) (by omega) htb d8 hl8 fun b o e h h2 => ?_⟩
  rw [upd_ne h2]; exact s7 _ _ (f6 _ _ e h h2)
end
end My

/-! LI -/
namespace My
open PySem L2
local macro_rules | `(tactic| walk_at "side") => `(tactic| first | with_reducible rfl | assumption | rfl | decide | omega | exact cpow1 (by omega) (by omega) | exact cdiv (by omega) (by omega) | exact two_pos _ | exact SqL.of (by assumption) | exact SqT.of (by assumption) | exact TyX.base (TyOf.int _) | exact TyX.base (TyOf.bl _) | exact TyX.base TyOf.non | exact scal_opt _ _ | exact k_ii | exact k_bi | exact k_ni | exact k_ib | exact k_bb | exact TyX.base (TyOf.lst (by assumption)) | exact k_ll | exact k_lt)
local macro_rules | `(tactic| walk_at "p") => `(tactic| repeat (first | refine And.intro (by walk_at "side") ?_ | apply Exists.intro | refine iteN (by assumption) ?_ | refine iteP (by assumption) ?_ | refine iteN (by decide) ?_ | refine iteP (by decide) ?_))

section
variable {P : Program} {w : World} {K : PySem.W.Frag} {mg : Str → Option Value} {base : Heap}
def intL (ws : List Int) : List V := ws.map V.int
theorem intL_len (ws : List Int) : (intL ws).length = ws.length := by unfold intL; simp
theorem intL_at {ws : List Int} {i : Nat} (h : i < ws.length) : atI (intL ws) (i : Nat) = some (.int (ws.getD i 0)) := by
  refine at_of (j := i) rfl ?_
  unfold intL
  rw [List.getElem?_map, List.getD_eq_getElem?_getD, List.getElem?_eq_getElem h]; rfl
def sp_law_row_words (T : Txt K mg) : Sp := fun vs H Q _ => ∃ (l q : Addr) (n u : Nat) (rs : List Part) (ws : List Int), vs = [.ref l, .ref q, .int n] ∧ LAt H l rs ∧ H q = some (.lst (intL ws)) ∧ Ok n rs ∧ (∀ (k : Nat) (g : Int), rs[k]? = some (Part.get g) → g < ws.length) ∧ n ≤ 12 ∧ rs.length < 100 ∧
  ∀ (H' : Hp) (t : Addr), Same H H' → H t = none → H' t = some (.lst (intL (evs n (envOf ws) rs))) → Q (.ref t) H'
theorem sp_law_row_words_len {T : Txt K mg} {vs H Q E} (h : sp_law_row_words T vs H Q E) : vs.length = 3 := by obtain ⟨_, _, _, _, _, _, rfl, _⟩ := h; rfl
theorem ok_law_row_words (T : Txt K mg) : FnOk P w K mg base CX0 2 T.f_law_row_words T.fd_law_row_words ["_law_rows", "_law_words", "_law_width"] (sp_law_row_words T) := by
  have G_law_op := ok_law_op (P := P) (w := w) (base := base) T
  refine T.F_law_row_words.ok sc_law_row_words (fun vs H Q E h => sp_law_row_words_len h) (fun cdv A outer s H vs Q E hr h => ?_)
  obtain ⟨l, q, n, u, rs, ws, rfl, hl, hq, ok, hg, hn, h100, k⟩ := h
  refine ⟨_, (pss_cons (ps_set (i := 3) sc_law_row_words.nd rfl (Or.inl rfl) (pe_lst pa_nil))
       (pss_cons (ps_for PassesOwn.never rfl (pi_list (pv 0)) (pg_name (i := 4) sc_law_row_words.nd rfl (Or.inl rfl))
        (pss_one (ps_if (pt_cmpR op_eq (pe_ix ix_tup (pv 4) pe_int (fun _ _ => rfl)) pe_str (nomark _))
        (pss_one (ps_expr (pe_bm PySem.F.plainAttrs_list PySem.F.slot_list_append PySem.F.type_list_append mt_append (pv 3) (pa_cons (pe_ix ix_list (pv 1) (pe_ix ix_tup (pv 4) pe_int (fun _ _ => rfl)) (fun _ _ => rfl)) pa_nil))))
        (pss_one (ps_if (pt_cmpR op_eq (pe_ix ix_tup (pv 4) pe_int (fun _ _ => rfl)) pe_str (nomark _))
        (pss_one (ps_expr (pe_bm PySem.F.plainAttrs_list PySem.F.slot_list_append PySem.F.type_list_append mt_append (pv 3) (pa_cons (pe_op op_mod (pe_callTy call_intI (by rfl) T.n_int (by decide +kernel) (pa_cons (pe_ix ix_tup (pv 4) pe_int (fun _ _ => rfl)) pa_nil)) (pe_op op_shl pe_int (pv 2))) pa_nil))))
        (pss_one (ps_expr (pe_bm PySem.F.plainAttrs_list PySem.F.slot_list_append PySem.F.type_list_append mt_append (pv 3) (pa_cons (pe_call G_law_op hr rfl T.g_law_op T.F_law_op.kp T.b_law_op .nil pass0 (pa_cons (pe_ix ix_tup (pv 4) pe_int (fun _ _ => rfl)) (pa_cons (pe_ix ix_list (pv 3) (pe_ix ix_tup (pv 4) pe_int (fun _ _ => rfl)) (fun _ _ => rfl)) (pa_cons (pe_ix ix_list (pv 3) (pe_ix ix_tup (pv 4) pe_int (fun _ _ => rfl)) (fun _ _ => rfl)) (pa_cons (pv 2) pa_nil))))) pa_nil)))))))))
       (pss_one (ps_ret (pv 3))))), ?_⟩
  have sz : sizeLine = 16777216 := sizeLine_eq
  obtain ⟨xs, hX, ex, hit⟩ := hl.item
  refine ⟨Nat.zero_le _, fun D hD => ?_⟩
  have s1 := same_new (o := .lst []) hD
  refine ⟨_, rfl, l, rfl, ⟨_, SqL.of (s1 _ _ hX)⟩, ?_⟩
  refine for_list (K := K) (a := l) (xs := xs) (fun j σ' H2 => ∃ v4 : Option V, σ' = [some (.ref l), some (.ref q), some (.int (n : Nat)), some (.ref D), v4] ∧ Same H H2 ∧ H2 D = some (.lst (intL (evs n (envOf ws) (rs.take j))))) ⟨none, rfl, s1, upd_same⟩ ?_ ?_ ?_
  · rintro j σ' H2 _ ⟨_, _, s2, _⟩
    exact SqL.of (s2 _ _ hX)
  · rintro j x σ' H2 hj ⟨v4, rfl, s2, h2⟩
    have hjl := (List.getElem?_eq_some_iff.mp hj).1
    obtain ⟨p, hp⟩ : ∃ p, rs[j]? = some p := ⟨_, List.getElem?_eq_getElem (by omega)⟩
    obtain ⟨t, ht, hT⟩ := hit j p hp
    rw [hj] at ht
    cases ht
    have hT2 := s2 _ _ hT
    have el : (evs n (envOf ws) (rs.take j)).length = j := by rw [evs_len, List.length_take]; omega
    have es : evs n (envOf ws) (rs.take (j + 1)) = evs n (envOf ws) (rs.take j) ++ [evV n (envOf ws) (evs n (envOf ws) (rs.take j)) p] := by rw [take_snoc hp, evs_snoc]
    have fin : ∀ v : Int, v = evV n (envOf ws) (evs n (envOf ws) (rs.take j)) p → Same H (upd H2 D (.lst (intL (evs n (envOf ws) (rs.take j)) ++ [.int v]))) ∧ upd H2 D (.lst (intL (evs n (envOf ws) (rs.take j)) ++ [.int v])) D = some (.lst (intL (evs n (envOf ws) (rs.take (j + 1))))) := fun v e => by
      subst e
      refine ⟨fun b o e => ?_, ?_⟩
      · rw [upd_ne (ne_of_none e hD)]; exact s2 _ _ e
      · rw [upd_same, es]; unfold intL; rw [List.map_append]; rfl
    have hz : (intL (evs n (envOf ws) (rs.take j))).length < sizeLine := by rw [intL_len, el]; omega
    refine ⟨_, rfl, t, _, 0, _, rfl, rfl, SqT.of hT2, tag0 p, rfl, _, rfl, ?_⟩
    cases p with
    | get g =>
      have g0 := (ok.get _ _ hp).1
      have g1 := hg _ _ hp
      obtain ⟨i, rfl⟩ := Int.eq_ofNat_of_zero_le g0
      refine iteP (dT rfl) ?_
      refine ⟨_, rfl, .inl ⟨rfl, _, SqL.of h2⟩, _, rfl, _, rfl, t, _, 1, _, rfl, rfl, SqT.of hT2, rfl, q, _, _, _, rfl, rfl, SqL.of (s2 _ _ hq), intL_at (by omega), ?_⟩
      exact ⟨D, _, _, rfl, rfl, h2, hz, _, rfl, fin _ rfl⟩
    | num v =>
      have hv := ok.num _ _ hp
      refine iteN num_get_f ?_
      refine ⟨_, rfl, t, _, 0, _, rfl, rfl, SqT.of hT2, rfl, rfl, _, rfl, iteP (dT rfl) ?_⟩
      refine ⟨_, rfl, .inl ⟨rfl, _, SqL.of h2⟩, _, rfl, t, _, 1, _, rfl, rfl, SqT.of hT2, rfl, v, rfl, _, rfl, _, _, rfl, rfl, cpow1 (by omega) (by omega), _, _, rfl, rfl, two_pos _, ?_⟩
      have ev : v % (1 * 2 ^ (n : Int).toNat) = v := by rw [Int.one_mul, Int.toNat_natCast]; exact Int.emod_eq_of_lt hv.1 hv.2
      exact ⟨D, _, _, rfl, rfl, h2, hz, _, rfl, fin _ ev⟩
    | op o a b =>
      have ab := ok.wf _ _ _ _ hp
      refine iteN (op_get_f o) ?_
      refine ⟨_, rfl, t, _, 0, _, rfl, rfl, SqT.of hT2, rfl, rfl, _, rfl, iteN (op_num_f o) ?_⟩
      refine ⟨_, rfl, .inl ⟨rfl, _, SqL.of h2⟩, _, rfl, t, _, 0, _, rfl, rfl, SqT.of hT2, rfl, _, rfl, _, rfl, t, _, 1, _, rfl, rfl, SqT.of hT2, rfl, D, _, _, _, rfl, rfl, SqL.of h2, intL_at (by omega), _, rfl, _, rfl, t, _, 2, _, rfl, rfl, SqT.of hT2, rfl, D, _, _, _, rfl, rfl, SqL.of h2, intL_at (by omega), _, rfl, o, _, _, n, rfl, hn, ?_⟩
      exact ⟨D, _, _, rfl, rfl, h2, hz, _, rfl, fin _ rfl⟩
  rintro σ' H2 ⟨v4, rfl, s2, h2⟩
  rw [ex, List.take_length] at h2
  exact ⟨_, rfl, k H2 D s2 hD h2⟩
def sp_law_low (T : Txt K mg) : Sp := fun vs H Q _ => ∃ (q : Addr) (n : Nat) (ws : List Int), vs = [.ref q, .int n] ∧ H q = some (.lst (intL ws)) ∧ n ≤ 12 ∧ ws.length < 100 ∧
  ∀ (H' : Hp) (t : Addr), Same H H' → H t = none → H' t = some (.lst (intL (ws.map fun x => x % 2 ^ n))) → Q (.ref t) H'
theorem sp_law_low_len {T : Txt K mg} {vs H Q E} (h : sp_law_low T vs H Q E) : vs.length = 2 := by obtain ⟨_, _, _, rfl, _⟩ := h; rfl
theorem ok_law_low (T : Txt K mg) : FnOk P w K mg base CX0 1 T.f_law_low T.fd_law_low ["_law_words", "_law_width"] (sp_law_low T) := by
  skip
  refine T.F_law_low.ok sc_law_low (fun vs H Q E h => sp_law_low_len h) (fun cdv A outer s H vs Q E hr h => ?_)
  obtain ⟨q, n, ws, rfl, hq, hn, h100, k⟩ := h
  refine ⟨_, (pss_one (ps_ret (pe_lc (own := [("_law_word_here", 2)]) (g := gName 2) (tt := tYes) rfl sc_law_low.nd (pi_list (pv 0)) (blkOk_by (N := ["_law_words", "_law_width", "_law_word_here"]) (sc := defScope s_law_low) (by decide +kernel)) (fun _ _ _ _ _ => by exact pg_name (i := 2) sc_law_low.nd rfl (Or.inl rfl)) (fun _ _ _ _ _ => by exact pts_nil) (fun _ _ _ _ _ => by exact (pe_op op_mod (pe_callTy call_intI (by rfl) T.n_int (by decide +kernel) (pa_cons (pv 2) pa_nil)) (pe_op op_shl pe_int (pv 1))))))), ?_⟩
  have sz : sizeLine = 16777216 := sizeLine_eq
  refine ⟨_, rfl, q, rfl, ⟨_, SqL.of hq⟩, fun D hD => ?_⟩
  refine lc_list (K := K) (a := q) (xs := intL ws) (fun j H2 => Same H H2 ∧ H2 D = some (.lst (intL ((ws.take j).map fun x => x % 2 ^ n)))) ⟨same_new hD, upd_same⟩ (fun j H2 _ ⟨s2, _⟩ => SqL.of (s2 _ _ hq)) ?_ ?_
  · rintro j x H2 hj ⟨s2, h2⟩
    unfold intL at hj
    rw [List.getElem?_map] at hj
    obtain ⟨z, hzj, rfl⟩ := Option.map_eq_some_iff.mp hj
    have hjl := (List.getElem?_eq_some_iff.mp hzj).1
    have em : z % (1 * 2 ^ (n : Int).toNat) = z % 2 ^ n := by rw [Int.one_mul, Int.toNat_natCast]
    refine ⟨rfl, yesT (iteP rfl ?_)⟩
    refine ⟨_, rfl, z, rfl, _, rfl, _, _, rfl, rfl, cpow1 (by omega) (by omega), _, _, rfl, rfl, two_pos _, _, h2, by rw [intL_len, List.length_map, List.length_take]; omega, fun b o e => ?_, ?_⟩
    · rw [upd_ne (ne_of_none e hD)]; exact s2 _ _ e
    · rw [upd_same, take_snoc hzj, List.map_append]
      show some (HO.lst (_ ++ [V.int (z % (1 * 2 ^ (n : Int).toNat))])) = _
      rw [em]; unfold intL; rw [List.map_append]; rfl
  rintro H2 ⟨s2, h2⟩
  rw [intL_len, List.take_length] at h2
  exact k H2 D s2 hD h2
/-- rows of words at the list R -/
def RL (H : Hp) (R : Addr) (k c N : Nat) : Prop := ∃ as : List Addr, H R = some (.lst (as.map V.ref)) ∧ as.length ≤ N ∧ ∀ a ∈ as, ∃ ws : List Int, H a = some (.lst (intL ws)) ∧ ws.length = k ∧ ∀ x ∈ ws, 0 ≤ x ∧ x < 2 ^ c
theorem RL.news {H H' : Hp} {R : Addr} {k c N : Nat} (h : RL H R k c N) (s : Same H H') : RL H' R k c N := by
  obtain ⟨as, h1, h2, h3⟩ := h
  exact ⟨as, s _ _ h1, h2, fun a m => by obtain ⟨ws, e, r⟩ := h3 a m; exact ⟨ws, s _ _ e, r⟩⟩
/-- rows that are being put at the list R: each row stands elsewhere -/
def RP (H : Hp) (R : Addr) (k c N : Nat) : Prop := ∃ as : List Addr, H R = some (.lst (as.map V.ref)) ∧ as.length ≤ N ∧ ∀ a ∈ as, a ≠ R ∧ ∃ ws : List Int, H a = some (.lst (intL ws)) ∧ ws.length = k ∧ ∀ x ∈ ws, 0 ≤ x ∧ x < 2 ^ c
theorem RP.rl {H : Hp} {R : Addr} {k c N : Nat} (h : RP H R k c N) : RL H R k c N := by
  obtain ⟨as, h1, h2, h3⟩ := h
  exact ⟨as, h1, h2, fun a m => (h3 a m).2⟩
theorem RP.news {H H' : Hp} {R : Addr} {k c N : Nat} (h : RP H R k c N) (s : Same H H') : RP H' R k c N := by
  obtain ⟨as, h1, h2, h3⟩ := h
  exact ⟨as, s _ _ h1, h2, fun a m => by obtain ⟨n, ws, e, r⟩ := h3 a m; exact ⟨n, ws, s _ _ e, r⟩⟩
theorem RP.more {H : Hp} {R : Addr} {k c N N' : Nat} (h : RP H R k c N) (l : N ≤ N') : RP H R k c N' := by
  obtain ⟨as, h1, h2, h3⟩ := h
  exact ⟨as, h1, by omega, h3⟩
theorem RP.push {H : Hp} {R a : Addr} {k c N : Nat} {ws : List Int} (h : RP H R k c N) (ha : H a = some (.lst (intL ws))) (hk : ws.length = k) (hw : ∀ x ∈ ws, 0 ≤ x ∧ x < 2 ^ c) (hne : a ≠ R) :
    ∃ ys, H R = some (.lst ys) ∧ ys.length ≤ N ∧ RP (upd H R (.lst (ys ++ [.ref a]))) R k c (N + 1) := by
  obtain ⟨as, h1, h2, h3⟩ := h
  refine ⟨_, h1, by rw [List.length_map]; exact h2, as ++ [a], by rw [upd_same, List.map_append]; rfl, by simp; exact h2, fun b m => ?_⟩
  rcases List.mem_append.mp m with m | m
  · obtain ⟨n, ws', e, r⟩ := h3 b m
    exact ⟨n, ws', by rw [upd_ne n]; exact e, r⟩
  · simp at m; subst m
    exact ⟨hne, ws, by rw [upd_ne hne]; exact ha, hk, hw⟩
def sp_law_all_rows (T : Txt K mg) : Sp := fun vs H Q _ => ∃ (q : Addr) (ls : List Nat) (c : Nat), vs = [.ref q] ∧ H q = some (.lst (natL ls)) ∧ (∀ x ∈ ls, x ≤ c) ∧ c ≤ 2 ∧ ls.length ≤ 3 ∧
  ∀ (H' : Hp) (t : Addr), Same H H' → H t = none → RL H' t ls.length c 100 → Q (.ref t) H'
theorem sp_law_all_rows_len {T : Txt K mg} {vs H Q E} (h : sp_law_all_rows T vs H Q E) : vs.length = 1 := by obtain ⟨_, _, _, rfl, _⟩ := h; rfl
theorem ok_law_all_rows (T : Txt K mg) : FnOk P w K mg base CX0 1 T.f_law_all_rows T.fd_law_all_rows ["_law_limits"] (sp_law_all_rows T) := by
  skip
  refine T.F_law_all_rows.ok sc_law_all_rows (fun vs H Q E h => sp_law_all_rows_len h) (fun cdv A outer s H vs Q E hr h => ?_)
  obtain ⟨q, ls, c, rfl, hq, hc, c2, l3, k⟩ := h
  refine ⟨_, (pss_cons (ps_set (i := 1) sc_law_all_rows.nd rfl (Or.inl rfl) (pe_lst (pa_cons (pe_lst pa_nil) pa_nil)))
       (pss_cons (ps_for PassesOwn.never rfl (pi_list (pv 0)) (pg_name (i := 2) sc_law_all_rows.nd rfl (Or.inl rfl))
        (pss_cons (ps_set (i := 3) sc_law_all_rows.nd rfl (Or.inl rfl) (pe_lst pa_nil))
       (pss_cons (ps_for PassesOwn.never rfl (pi_list (pv 1)) (pg_name (i := 4) sc_law_all_rows.nd rfl (Or.inl rfl))
        (pss_one (ps_for PassesOwn.never rfl (pi_range1 (by rfl) T.n_range (pa_cons (pe_op op_shl pe_int (pv 2)) pa_nil)) (pg_name (i := 5) sc_law_all_rows.nd rfl (Or.inl rfl))
        (pss_one (ps_expr (pe_bm PySem.F.plainAttrs_list PySem.F.slot_list_append PySem.F.type_list_append mt_append (pv 3) (pa_cons (pe_op op_cat (pv 4) (pe_lst (pa_cons (pv 5) pa_nil))) pa_nil)))))))
       (pss_one (ps_set (i := 1) sc_law_all_rows.nd rfl (Or.inl rfl) (pe_callTy call_listL (by rfl) T.n_list (by decide +kernel) (pa_cons (pv 3) pa_nil)))))))
       (pss_one (ps_ret (pv 1))))), ?_⟩
  have sz : sizeLine = 16777216 := sizeLine_eq
  have hlen : ∀ j, j < ls.length → 4 ^ (j + 1) ≤ 64 := fun j hj => by
    have : j = 0 ∨ j = 1 ∨ j = 2 := by omega
    rcases this with rfl | rfl | rfl <;> decide
  -- rows = [[]]
  refine ⟨Nat.zero_le _, fun e he => ?_⟩
  have s1 := same_new (o := .lst []) he
  refine ⟨by show 1 ≤ sizeLine; decide, fun R hR => ?_⟩
  have s2 := s1.trans (same_new (o := .lst [.ref e]) hR)
  have eR : e ≠ R := ne_of_none upd_same hR
  refine ⟨_, rfl, q, rfl, ⟨_, SqL.of (s2 _ _ hq)⟩, ?_⟩
  refine for_list (K := K) (a := q) (xs := natL ls) (fun j σ' H3 => ∃ (R : Addr) (v2 v3 v4 v5 : Option V), σ' = [some (.ref q), some (.ref R), v2, v3, v4, v5] ∧ Same H H3 ∧ H R = none ∧ RL H3 R j c (4 ^ j)) ⟨R, none, none, none, none, rfl, s2, s1.free hR, [e], upd_same, Nat.le_refl _, fun a m => by
      simp at m; subst m
      exact ⟨[], by rw [upd_ne eR]; exact upd_same, rfl, by simp⟩⟩ ?_ ?_ ?_
  · rintro j σ' H3 _ ⟨_, _, _, _, _, _, s3, _⟩
    exact SqL.of (s3 _ _ hq)
  · rintro j x σ' H3 hj ⟨R, v2, v3, v4, v5, rfl, s3, hR0, hRL⟩
    unfold natL at hj
    rw [List.getElem?_map] at hj
    obtain ⟨b, hbj, rfl⟩ := Option.map_eq_some_iff.mp hj
    have hbl := hc b (List.mem_of_getElem? hbj)
    have hjl := (List.getElem?_eq_some_iff.mp hbj).1
    have h64 := hlen j hjl
    obtain ⟨as, hA, hAl, hAs⟩ := hRL
    -- longer = []
    refine ⟨Nat.zero_le _, fun G hG => ?_⟩
    have s4 := same_new (o := .lst []) hG
    have hG0 := s3.free hG
    refine ⟨_, rfl, R, rfl, ⟨_, SqL.of (s4 _ _ hA)⟩, ?_⟩
    refine for_list (K := K) (a := R) (xs := as.map V.ref) (fun i σ' H5 => ∃ (v4 v5 : Option V), σ' = [some (.ref q), some (.ref R), some (.int (b : Nat)), some (.ref G), v4, v5] ∧ Same H3 H5 ∧ RP H5 G (j + 1) c (4 * i)) ⟨_, _, rfl, s4, [], upd_same, Nat.zero_le _, by simp⟩ ?_ ?_ ?_
    · rintro i σ' H5 _ ⟨_, _, _, s5, _⟩
      exact SqL.of (s5 _ _ hA)
    · rintro i y σ' H5 hi ⟨v4, v5, rfl, s5, hP⟩
      rw [List.getElem?_map] at hi
      obtain ⟨a, hai, rfl⟩ := Option.map_eq_some_iff.mp hi
      have hil := (List.getElem?_eq_some_iff.mp hai).1
      obtain ⟨ws, hW, hWl, hWs⟩ := hAs a (List.mem_of_getElem? hai)
      have pw : (1 : Int) * 2 ^ (b : Int).toNat = ((2 ^ b : Nat) : Int) := by rw [Int.one_mul, Int.toNat_natCast]; push_cast; rfl
      have p4 : 2 ^ b ≤ 4 := by
        have : b = 0 ∨ b = 1 ∨ b = 2 := by omega
        rcases this with rfl | rfl | rfl <;> decide
      have pc : (2 : Nat) ^ b ≤ 2 ^ c := Nat.pow_le_pow_right (by decide) hbl
      have pc' : ((2 ^ b : Nat) : Int) ≤ 2 ^ c := by exact_mod_cast pc
      generalize (2 ^ b : Nat) = z at *
      refine ⟨_, rfl, _, _, rfl, rfl, cpow1 (by omega) (by omega), (z : Nat), by show [V.int (1 * 2 ^ (b : Int).toNat)] = _; rw [pw], by omega, by omega, ?_⟩
      refine for_range (lo := 0) (n := ((z : Nat) : Int).toNat) (fun t σ' H6 => ∃ v5 : Option V, σ' = [some (.ref q), some (.ref R), some (.int (b : Nat)), some (.ref G), some (.ref a), v5] ∧ Same H3 H6 ∧ RP H6 G (j + 1) c (4 * i + t)) ⟨_, rfl, s5, hP⟩ ?_ ?_
      · rintro t σ' H6 ht ⟨v5, rfl, s6, hP6⟩
        rw [Int.toNat_natCast] at ht
        obtain ⟨ys, hys, hyl, _⟩ := id hP6
        refine ⟨_, rfl, .inl ⟨rfl, _, SqL.of hys⟩, _, rfl, _, rfl, by show 1 ≤ sizeLine; decide, fun g hg => ?_⟩
        have s7 := s6.trans (same_new (o := .lst [.int (0 + (t : Nat))]) hg)
        have P7 := hP6.news (same_new (o := .lst [.int (0 + (t : Nat))]) hg)
        have ag : upd H6 g (.lst [.int (0 + (t : Nat))]) a = some (.lst (intL ws)) := s7 _ _ hW
        refine ⟨a, g, _, _, rfl, rfl, ag, upd_same, by rw [intL_len, List.length_singleton]; omega, fun f hf => ?_⟩
        have s8 := s7.trans (same_new (o := .lst (intL ws ++ [.int (0 + (t : Nat))])) hf)
        have P8 := P7.news (same_new (o := .lst (intL ws ++ [.int (0 + (t : Nat))])) hf)
        have Gf : f ≠ G := fun e => by rw [e, upd_ne (ne_of_none hys hg), hys] at hf; cases hf
        obtain ⟨zs, hz, hzl, P9⟩ := P8.push (a := f) (ws := ws ++ [(0 : Int) + (t : Nat)]) (by rw [upd_same]; unfold intL; rw [List.map_append]; rfl) (by rw [List.length_append, hWl]; rfl) (fun x m => by
          rcases List.mem_append.mp m with m | m
          · exact hWs x m
          · simp at m; subst m; omega) Gf
        refine ⟨G, _, _, rfl, rfl, hz, by omega, _, rfl, fun b' o e => ?_, P9⟩
        rw [upd_ne (ne_of_none e hG)]; exact s8 _ _ e
      · rintro σ' H6 ⟨v5, rfl, s6, hP6⟩
        rw [Int.toNat_natCast] at hP6
        exact ⟨_, _, rfl, s6, hP6.more (by omega)⟩
    rintro σ' H5 ⟨v4, v5, rfl, s5, hP⟩
    rw [List.length_map] at hP
    obtain ⟨bs, hB, hBl, hBs⟩ := hP
    refine ⟨_, rfl, G, _, rfl, SqL.of hB, fun G' hG' => ?_⟩
    have s6 := same_new (o := .lst (bs.map V.ref)) hG'
    refine ⟨G', _, _, _, _, rfl, (s3.trans s5).trans s6, (s3.trans s5).free hG', bs, upd_same, ?_, fun a m => ?_⟩
    · rw [Nat.pow_succ]; omega
    · obtain ⟨_, ws, e, r⟩ := hBs a m
      exact ⟨ws, s6 _ _ e, r⟩
  rintro σ' H3 ⟨R, v2, v3, v4, v5, rfl, s3, hR0, as, hA, hAl, hAs⟩
  rw [natL_len] at hAl hAs
  refine ⟨_, rfl, k H3 R s3 hR0 ⟨as, hA, ?_, hAs⟩⟩
  have : ls.length = 0 ∨ ls.length = 1 ∨ ls.length = 2 ∨ ls.length = 3 := by omega
  rcases this with e | e | e | e <;> rw [e] at hAl <;> omega
end
end My

/-! R7 -/
namespace My
open PySem L2
theorem dpAll_parts {K : PySem.W.Frag} {H : Hp} : ∀ (ts : List Addr) (ps : List Part), ts.length = ps.length → (∀ (i : Nat) (p : Part), ps[i]? = some p → ∃ t, ts[i]? = some t ∧ H t = some (.tup p.vals)) → DpAll K H (ts.map V.ref) (ps.map Part.pd)
  | [], [], _, _ => .nil
  | [], p :: ps, h, _ => by cases h
  | t :: ts, [], h, _ => by cases h
  | t :: ts, p :: ps, h, g => by
    obtain ⟨t', e, ht⟩ := g 0 p rfl
    cases e
    exact .cons (dp_part ht) (dpAll_parts ts ps (by simpa using h) fun i q e => g (i + 1) q e)
theorem dp_list {K : PySem.W.Frag} {H : Hp} {l : Addr} {ps : List Part} (h : LAt H l ps) : Dp K H (.ref l) (.list (ps.map Part.pd)) := by
  obtain ⟨ts, h1, h2, h3⟩ := h
  exact .lst (SqL.of h1) (dpAll_parts ts ps h2 h3)
theorem depth_part (p : Part) : p.pd.depth ≤ 2 := by cases p <;> simp [Part.pd, PyData.depth, PyData.depthAll]
theorem lay_part (p : Part) : p.pd.canLay0 = true := by
  have := shaped_part p
  unfold SeqAt.shaped at this
  simp at this; exact this.1
theorem depthAll_parts : ∀ ps : List Part, PyData.depthAll (ps.map Part.pd) ≤ 3
  | [] => by simp [PyData.depthAll]
  | p :: ps => by
    have := depthAll_parts ps
    have := depth_part p
    simp [PyData.depthAll]; omega
theorem layAll_parts : ∀ ps : List Part, PyData.canLayAll0 (ps.map Part.pd) = true
  | [] => by simp [PyData.canLayAll0]
  | p :: ps => by
    simp [PyData.canLayAll0, layAll_parts ps, lay_part p]
theorem shaped_list (ps : List Part) : SeqAt.shaped (.list (ps.map Part.pd)) = true := by
  have h1 := layAll_parts ps
  have h2 := depthAll_parts ps
  simp [SeqAt.shaped, PyData.canLay0, PyData.depth, h1]; omega
theorem eqvAll_parts : ∀ ps : List Part, PyData.eqvAll (ps.map Part.pd) (ps.map Part.pd) = true
  | [] => by simp [PyData.eqvAll]
  | p :: ps => by simp [PyData.eqvAll, eqv_pd, eqvAll_parts ps]
theorem eqL {K : PySem.W.Frag} {H : Hp} {l m : Addr} {ps : List Part} {Q : VK} (hl : LAt H l ps) (hm : LAt H m ps) (h : Q (.bl true) H) : rEqD K (.ref l) (.ref m) H Q :=
  ⟨_, _, dp_list hl, dp_list hm, shaped_list ps, shaped_list ps, by
    have : PyData.eqv (.list (ps.map Part.pd)) (.list (ps.map Part.pd)) = true := by simp [PyData.eqv, eqvAll_parts]
    rw [this]; exact h⟩
end My

/-! R8 -/
namespace My
open PySem L2
/-! ### all rows made -/
def mStep (n : Nat) (st : List Part × List Nat) (r : Part) : List Part × List Nat := ((mPart n st.1 r st.2).2, st.2 ++ [(mPart n st.1 r st.2).1])
def mAll (n : Nat) (rs : List Part) : List Part × List Nat := rs.foldl (mStep n) ([], [])
theorem mAll_snoc (n : Nat) (rs : List Part) (r : Part) : mAll n (rs ++ [r]) = mStep n (mAll n rs) r := by unfold mAll; rw [List.foldl_append]; rfl
theorem rowOk_at {n u : Nat} {plain : Bool} {rs : List Part} (h : Rows n u plain rs) {k : Nat} {p : Part} (e : rs[k]? = some p) : RowOk n u plain k p := by
  refine ⟨?_, ?_, fun g eg => ?_, fun hp o a b eo => ?_⟩
  · cases p with
    | op o a b => exact h.ok.wf _ _ _ _ e
    | _ => trivial
  · cases p with
    | op o a b => trivial
    | get g => exact h.ok.get _ _ e
    | num v => exact h.ok.num _ _ e
  · subst eg; exact h.gets _ _ e
  · subst eo; exact h.pln hp _ _ _ _ e
/-- a part put into well made parts -/
theorem rows_mk {n u : Nat} {plain : Bool} {ps : List Part} {p : Part} (h : Rows n u plain ps) (hp : RowOk n u plain ps.length p) : Rows n u plain (mk ps p).2 := by
  unfold mk; split
  · exact h
  · exact h.snoc hp
theorem rowOk_num {n u : Nat} {plain : Bool} {len : Nat} {v : Int} (h : 0 ≤ v ∧ v < 2 ^ n) : RowOk n u plain len (.num v) := ⟨trivial, h, fun g e => (by cases e), fun _ o a b e => by cases e⟩
theorem rows_fin {n u : Nat} (h1 : 1 ≤ n) {plain : Bool} {ps : List Part} (h : Rows n u plain ps) {o : Op} {a b : Nat} (ha : a < ps.length) (hb : b < ps.length) (hpl : plain = true → o ≠ .less ∧ o ≠ .same) (s : Sh) : Rows n u plain (fin ps o a b s).2 := by
  cases s
  · exact h
  · exact h
  · exact rows_mk h (rowOk_num ⟨Int.le_refl _, pow_pos' n⟩)
  · exact rows_mk h (rowOk_num ⟨by decide, one_lt h1⟩)
  · exact rows_mk h ⟨⟨ha, hb⟩, trivial, fun g e => (by cases e), fun hp o' a' b' e => (by cases e; exact hpl hp)⟩
theorem rows_mApply {n u : Nat} (h1 : 1 ≤ n) {plain : Bool} {ps : List Part} (h : Rows n u plain ps) {o : Op} {a b : Nat} (ha : a < ps.length) (hb : b < ps.length) (hpl : plain = true → o ≠ .less ∧ o ≠ .same) : Rows n u plain (mApply n ps o a b).2 := by
  unfold mApply; split
  · rename_i x y ea eb
    exact rows_mk h (rowOk_num (opI_range h1 (word_ok h.ok ea) (word_ok h.ok eb)))
  · split
    · exact rows_fin h1 h hb ha hpl _
    · exact rows_fin h1 h ha hb hpl _
/-- what holds behind the rows made -/
structure AInv (n u : Nat) (plain : Bool) (rs : List Part) (st : List Part × List Nat) : Prop where
  rows : Rows n u plain st.1
  plen : st.2.length = rs.length
  len : st.1.length ≤ rs.length
  there : ∀ k ∈ st.2, k < st.1.length
theorem AInv.rowIn {n u : Nat} {plain : Bool} {rs : List Part} {st : List Part × List Nat} (h : AInv n u plain rs st) {r : Part} (hr : RowOk n u plain rs.length r) : RowIn n st.1 r st.2 :=
  ⟨fun o a b e => by have := hr.1; subst e; rw [h.plen]; exact this, h.there, hr.2.1⟩
theorem AInv.step {n u : Nat} (h1 : 1 ≤ n) {plain : Bool} {rs : List Part} {st : List Part × List Nat} (h : AInv n u plain rs st) {r : Part} (hr : RowOk n u plain rs.length r) :
    AInv n u plain (rs ++ [r]) (mStep n st r) ∧ st.1 <+: (mStep n st r).1 ∧ (mPart n st.1 r st.2).1 < (mStep n st r).1.length := by
  have hin := h.rowIn hr
  have key : Rows n u plain (mPart n st.1 r st.2).2 ∧ (mPart n st.1 r st.2).1 < (mPart n st.1 r st.2).2.length ∧ (mPart n st.1 r st.2).2.length ≤ st.1.length + 1 ∧ st.1 <+: (mPart n st.1 r st.2).2 := by
    cases r with
    | num v => exact ⟨rows_mk h.rows (rowOk_num hr.2.1), mk_lt _ _, mk_len _ _, mk_pre _ _⟩
    | get g => exact ⟨rows_mk h.rows ⟨trivial, hr.2.1, hr.2.2.1, fun _ o a b e => by cases e⟩, mk_lt _ _, mk_len _ _, mk_pre _ _⟩
    | op o a b =>
      obtain ⟨ha, hb⟩ := hin.ahead o a b rfl
      exact ⟨rows_mApply h1 h.rows (hin.at ha) (hin.at hb) (fun hp => hr.2.2.2 hp o a b rfl), mApply_lt (hin.at ha) (hin.at hb), mApply_len _ _ _ _ _, mApply_pre _ _ _ _ _⟩
  refine ⟨⟨key.1, ?_, ?_, fun k hk => ?_⟩, key.2.2.2, key.2.1⟩
  · show (st.2 ++ [_]).length = _
    rw [List.length_append, List.length_append, h.plen]; rfl
  · show (mPart n st.1 r st.2).2.length ≤ _
    rw [List.length_append, List.length_singleton]
    have := h.len; have := key.2.2.1; omega
  · rcases List.mem_append.mp hk with hk | hk
    · have := h.there k hk
      have := key.2.2.2.length_le
      show k < (mPart n st.1 r st.2).2.length
      omega
    · simp at hk; subst hk; exact key.2.1
theorem aInv_nil (n u : Nat) (plain : Bool) : AInv n u plain [] ([], []) := ⟨rows_nil _ _ _, rfl, Nat.le_refl _, fun k h => by simp at h⟩
theorem Rows.take {n u : Nat} {plain : Bool} {rs : List Part} (h : Rows n u plain rs) (j : Nat) : Rows n u plain (rs.take j) := by
  have at_ : ∀ {k : Nat} {p : Part}, (rs.take j)[k]? = some p → rs[k]? = some p := fun {k p} e => by
    have hk := (List.getElem?_eq_some_iff.mp e).1
    rw [List.length_take] at hk
    rw [List.getElem?_take, if_pos (by omega)] at e; exact e
  exact ⟨⟨fun k o a b e => h.ok.wf k o a b (at_ e), fun k g e => h.ok.get k g (at_ e), fun k v e => h.ok.num k v (at_ e)⟩, fun k g e => h.gets k g (at_ e), fun q k o a b e => h.pln q k o a b (at_ e)⟩
theorem mAll_inv {n u : Nat} (h1 : 1 ≤ n) {plain : Bool} {rs : List Part} (h : Rows n u plain rs) : ∀ j, AInv n u plain (rs.take j) (mAll n (rs.take j)) := by
  intro j
  induction j with
  | zero => rw [List.take_zero]; exact aInv_nil _ _ _
  | succ j ih =>
    by_cases hj : j < rs.length
    · obtain ⟨p, hp⟩ : ∃ p, rs[j]? = some p := ⟨_, List.getElem?_eq_getElem hj⟩
      rw [take_snoc hp, mAll_snoc]
      have hl : (rs.take j).length = j := by rw [List.length_take]; omega
      exact (ih.step h1 (by rw [hl]; exact rowOk_at h hp)).1
    · rw [List.take_of_length_le (by omega)]
      rw [List.take_of_length_le (by omega)] at ih
      exact ih
end My

/-! LJ -/
namespace My
open PySem L2
local macro_rules | `(tactic| walk_at "side") => `(tactic| first | with_reducible rfl | assumption | rfl | decide | omega | exact cpow1 (by omega) (by omega) | exact cdiv (by omega) (by omega) | exact two_pos _ | exact SqL.of (by assumption) | exact SqT.of (by assumption) | exact TyX.base (TyOf.int _) | exact TyX.base (TyOf.bl _) | exact TyX.base TyOf.non | exact scal_opt _ _ | exact k_ii | exact k_bi | exact k_ni | exact k_ib | exact k_bb | exact TyX.base (TyOf.lst (by assumption)) | exact k_ll | exact k_lt)
local macro_rules | `(tactic| walk_at "p") => `(tactic| repeat (first | refine And.intro (by walk_at "side") ?_ | apply Exists.intro | refine iteN (by assumption) ?_ | refine iteP (by assumption) ?_ | refine iteN (by decide) ?_ | refine iteP (by decide) ?_))

section
variable {P : Program} {w : World} {K : PySem.W.Frag} {mg : Str → Option Value} {base : Heap}
def sp_law_all_made (T : Txt K mg) : Sp := fun vs H Q _ => ∃ (a lp d l R : Addr) (n u : Nat) (plain : Bool) (rs : List Part), vs = [.ref a, .ref l, .int n, .ref R] ∧ PoolAt T.C H a lp d n [] ∧ LAt H l [] ∧ LAt H R rs ∧ Rows n u plain rs ∧ 1 ≤ n ∧ n ≤ 12 ∧ rs.length < 60 ∧ l ≠ lp ∧ R ≠ l ∧ R ≠ lp ∧
  ∀ (H' : Hp) (t : Addr), H t = none → PoolAt T.C H' a lp d n (mAll n rs).1 → LAt H' l (mAll n rs).1 → H' t = some (.lst (natL (mAll n rs).2)) → (∀ b o, H b = some o → b ≠ l → b ≠ lp → b ≠ d → H' b = some o) → Q (.ref t) H'
theorem sp_law_all_made_len {T : Txt K mg} {vs H Q E} (h : sp_law_all_made T vs H Q E) : vs.length = 4 := by obtain ⟨_, _, _, _, _, _, _, _, _, rfl, _⟩ := h; rfl
theorem LAt.ne {H : Hp} {l b : Addr} {ps : List Part} {o : HO} (h : LAt H l ps) (hb : H b = some o) (ho : ∀ xs, o ≠ .lst xs) : l ≠ b := by
  obtain ⟨ts, e, _⟩ := h
  intro z
  rw [← z, e] at hb
  exact ho _ (Option.some.inj hb).symm
theorem natL_snoc (pl : List Nat) (k : Nat) : natL (pl ++ [k]) = natL pl ++ [.int (k : Nat)] := by unfold natL; rw [List.map_append]; rfl
theorem ok_law_all_made (T : Txt K mg) : FnOk P w K mg base CX0 5 T.f_law_all_made T.fd_law_all_made ["_law_pool", "_law_parts", "_law_width", "_law_rows"] (sp_law_all_made T) := by
  have G_law_asked := ok_law_asked (P := P) (w := w) (base := base) T; have G_law_part := ok_law_part (P := P) (w := w) (base := base) T
  refine T.F_law_all_made.ok sc_law_all_made (fun vs H Q E h => sp_law_all_made_len h) (fun cdv A outer s H vs Q E hr h => ?_)
  obtain ⟨a, lp, d, l, R, n, u, plain, rs, rfl, hp, hl, hR, ro, n1, n12, r60, llp, Rl, Rlp, k⟩ := h
  refine ⟨_, (pss_cons (ps_set (i := 4) sc_law_all_made.nd rfl (Or.inl rfl) (pe_lst pa_nil))
       (pss_cons (ps_for PassesOwn.never rfl (pi_list (pv 3)) (pg_name (i := 5) sc_law_all_made.nd rfl (Or.inl rfl))
        (pss_cons (ps_set (i := 6) sc_law_all_made.nd rfl (Or.inl rfl) (pe_call G_law_part hr rfl T.g_law_part T.F_law_part.kp T.b_law_part .nil pass0 (pa_cons (pv 1) (pa_cons (pv 2) (pa_cons (pv 5) (pa_cons (pv 4) pa_nil))))))
       (pss_cons (ps_if (pt_cmpR op_ne (pe_call G_law_asked hr rfl T.g_law_asked T.F_law_asked.kp T.b_law_asked .nil pass0 (pa_cons (pv 0) (pa_cons (pv 5) (pa_cons (pv 4) pa_nil)))) (pv 6) (nomark _))
        (pss_one (ps_ret (pe_lst pa_nil)))
        pss_nil)
       (pss_one (ps_expr (pe_bm PySem.F.plainAttrs_list PySem.F.slot_list_append PySem.F.type_list_append mt_append (pv 4) (pa_cons (pv 6) pa_nil)))))))
       (pss_one (ps_ret (pv 4))))), ?_⟩
  have sz : sizeLine = 16777216 := sizeLine_eq
  obtain ⟨xs, hX, ex, hit⟩ := hR.item
  obtain ⟨dx, ho⟩ := id hp.ob
  obtain ⟨tsp, hlp, _⟩ := id hp.lst
  obtain ⟨tsl, hll, _⟩ := id hl
  have hd := hp.dic
  have Rd : R ≠ d := ne_of hX hd (by intro z; cases z)
  have ld : l ≠ d := ne_of hll hd (by intro z; cases z)
  -- places = []
  refine ⟨Nat.zero_le _, fun D hD => ?_⟩
  have s1 := same_new (o := .lst []) hD
  have Dl : D ≠ l := fun e => by rw [e, hll] at hD; cases hD
  have Dlp : D ≠ lp := fun e => by rw [e, hlp] at hD; cases hD
  have Dd : D ≠ d := fun e => by rw [e, hd] at hD; cases hD
  refine ⟨_, rfl, R, rfl, ⟨_, SqL.of (s1 _ _ hX)⟩, ?_⟩
  refine for_list (K := K) (a := R) (xs := xs) (fun j σ' H2 => ∃ v5 v6 : Option V, σ' = [some (.ref a), some (.ref l), some (.int (n : Nat)), some (.ref R), some (.ref D), v5, v6] ∧ PoolAt T.C H2 a lp d n (mAll n (rs.take j)).1 ∧ LAt H2 l (mAll n (rs.take j)).1 ∧ H2 D = some (.lst (natL (mAll n (rs.take j)).2)) ∧ (∀ b o, H b = some o → b ≠ l → b ≠ lp → b ≠ d → H2 b = some o))
    ⟨none, none, rfl, hp.news s1, hl.news s1, upd_same, fun b o e _ _ _ => s1 b o e⟩ ?_ ?_ ?_
  · rintro j σ' H2 _ ⟨_, _, _, _, _, _, f2⟩
    exact SqL.of (f2 _ _ hX Rl Rlp Rd)
  · rintro j x σ' H2 hj ⟨v5, v6, rfl, hp2, hl2, hD2, f2⟩
    have hjl := (List.getElem?_eq_some_iff.mp hj).1
    obtain ⟨r, hr'⟩ : ∃ p, rs[j]? = some p := ⟨_, List.getElem?_eq_getElem (by omega)⟩
    obtain ⟨t, ht, hT⟩ := hit j r hr'
    rw [hj] at ht
    cases ht
    have tl : t ≠ l := ne_of hT hll (by intro z; cases z)
    have tlp : t ≠ lp := ne_of hT hlp (by intro z; cases z)
    have td : t ≠ d := ne_of hT hd (by intro z; cases z)
    have hT2 := f2 _ _ hT tl tlp td
    have inv := mAll_inv n1 ro j
    have hjt : (rs.take j).length = j := by rw [List.length_take]; omega
    have rk : RowOk n u plain (rs.take j).length r := by rw [hjt]; exact rowOk_at ro hr'
    have hin := inv.rowIn rk
    have il := inv.len
    have ip := inv.plen
    rw [hjt] at il ip
    have es : mAll n (rs.take (j + 1)) = mStep n (mAll n (rs.take j)) r := by rw [take_snoc hr', mAll_snoc]
    -- due = part(parts, width, row, places)
    refine ⟨_, rfl, _, rfl, _, rfl, _, rfl, l, t, D, _, n, r, _, rfl, hl2, by omega, n12, hT2, hD2, hin, fun H3 hl3 f3 => ?_⟩
    have hp3 : PoolAt T.C H3 a lp d n (mAll n (rs.take j)).1 := hp2.keep (S := fun b => b = l) (fun b o e hb => f3 b o e hb) (by obtain ⟨dx2, ho2⟩ := hp2.ob; obtain ⟨ts2, hl2', _⟩ := hl2; exact ne_of ho2 hl2' (by intro z; cases z)) llp.symm (by intro z; exact ld z.symm)
      (fun t xs e => by obtain ⟨ts2, hl2', _⟩ := hl2; exact ne_of e hl2' (by intro z; cases z))
    have hT3 := f3 _ _ hT2 tl
    have hD3 := f3 _ _ hD2 Dl
    -- asked(pool, row, places)
    refine ⟨_, rfl, _, rfl, _, rfl, a, lp, d, t, D, _, n, r, _, rfl, hp3, by omega, n12, hT3, hD3, hin, fun H4 hp4 f4 => ?_⟩
    refine ⟨_, rfl, rfl, _, rfl, iteN (by simp) ?_⟩
    have hD4 := f4 _ _ hD3 Dlp Dd
    have hl4 : LAt H4 l (mPart n (mAll n (rs.take j)).1 r (mAll n (rs.take j)).2).2 := hl3.keep (S := fun b => b = lp ∨ b = d) (fun b o e hb => f4 b o e (fun z => hb (.inl z)) (fun z => hb (.inr z))) (by rintro (z | z); exact llp z; exact ld z)
      (fun t xs e => by
        obtain ⟨ts3, hlp3, _⟩ := hp3.lst
        rintro (z | z)
        · exact ne_of e hlp3 (by intro z; cases z) z
        · exact ne_of e hp3.dic (by intro z; cases z) z)
    refine ⟨_, rfl, .inl ⟨rfl, _, SqL.of hD4⟩, _, rfl, D, _, _, rfl, rfl, hD4, by rw [natL_len]; omega, _, _, rfl, ?_, ?_, ?_, fun b o e h1 h2 h3 => ?_⟩
    · rw [es]
      exact hp4.keep (S := fun b => b = D) (fun b o e hb => by rw [upd_ne hb]; exact e) (by obtain ⟨dx4, ho4⟩ := hp4.ob; exact ne_of ho4 hD4 (by intro z; cases z)) (fun z => Dlp z.symm) (fun z => Dd z.symm) (fun t xs e => ne_of e hD4 (by intro z; cases z))
    · rw [es]
      exact hl4.keep (S := fun b => b = D) (fun b o e hb => by rw [upd_ne hb]; exact e) (fun z => Dl z.symm) (fun t xs e => ne_of e hD4 (by intro z; cases z))
    · rw [upd_same, es]; show _ = some (HO.lst (natL (_ ++ [_]))); rw [natL_snoc]
    · rw [upd_ne (ne_of_none e hD)]; exact f4 _ _ (f3 _ _ (f2 _ _ e h1 h2 h3) h1) h2 h3
  rintro σ' H2 ⟨v5, v6, rfl, hp2, hl2, hD2, f2⟩
  rw [ex, List.take_length] at hp2 hl2 hD2
  exact ⟨_, rfl, k H2 D hD hp2 hl2 hD2 f2⟩
end
end My

/-! LK -/
namespace My
open PySem L2
local macro_rules | `(tactic| walk_at "side") => `(tactic| first | with_reducible rfl | assumption | rfl | decide | omega | exact cpow1 (by omega) (by omega) | exact cdiv (by omega) (by omega) | exact two_pos _ | exact SqL.of (by assumption) | exact SqT.of (by assumption) | exact TyX.base (TyOf.int _) | exact TyX.base (TyOf.bl _) | exact TyX.base TyOf.non | exact scal_opt _ _ | exact k_ii | exact k_bi | exact k_ni | exact k_ib | exact k_bb | exact TyX.base (TyOf.lst (by assumption)) | exact k_ll | exact k_lt)
local macro_rules | `(tactic| walk_at "p") => `(tactic| repeat (first | refine And.intro (by walk_at "side") ?_ | apply Exists.intro | refine iteN (by assumption) ?_ | refine iteP (by assumption) ?_ | refine iteN (by decide) ?_ | refine iteP (by decide) ?_))

section
variable {P : Program} {w : World} {K : PySem.W.Frag} {mg : Str → Option Value} {base : Heap}
/-- two rows of parts, two pools: apart -/
structure Apart (l d L l2 d2 L2 : Addr) : Prop where
  a1 : l ≠ l2
  a2 : d ≠ d2
  a3 : L ≠ L2
  a4 : L2 ≠ l2
  a5 : L2 ≠ l
  a6 : L ≠ l2
def sp_law_carried_well (T : Txt K mg) : Sp := fun vs H Q _ => ∃ (a l d L a2 l2 d2 L2 : Addr) (n w2 : Nat) (ps qs : List Part) (i : Nat), vs = [.ref a, .ref L, .int i, .ref a2, .ref L2, .int w2] ∧ PoolAt T.C H a l d n ps ∧ LAt H L ps ∧ Ok n ps ∧ ps.length < 60 ∧ i < ps.length ∧
  PoolAt T.C H a2 l2 d2 w2 qs ∧ LAt H L2 qs ∧ 1 ≤ w2 ∧ w2 ≤ 12 ∧ Ok w2 qs ∧ qs.length ≤ 900 ∧ Apart l d L l2 d2 L2 ∧
  ∀ (H' : Hp) (ks : List Nat), ReachL ps i ks → CInv w2 ps qs ks (mCarry w2 ps ks qs) → PoolAt T.C H' a2 l2 d2 w2 (mCarry w2 ps ks qs).1 → LAt H' L2 (mCarry w2 ps ks qs).1 → (∀ b o, H b = some o → b ≠ L2 → b ≠ l2 → b ≠ d2 → H' b = some o) → Q (.bl true) H'
theorem sp_law_carried_well_len {T : Txt K mg} {vs H Q E} (h : sp_law_carried_well T vs H Q E) : vs.length = 6 := by obtain ⟨_, _, _, _, _, _, _, _, _, _, _, _, _, rfl, _⟩ := h; rfl
/-- a pool stands where only a list changes that is not its own -/
theorem PoolAt.but {C : Addr} {H H' : Hp} {a l d b : Addr} {n : Nat} {ps : List Part} {xs : List V} (h : PoolAt C H a l d n ps) (hb : H b = some (.lst xs)) (hl : l ≠ b) (s : ∀ x o, H x = some o → x ≠ b → H' x = some o) : PoolAt C H' a l d n ps := by
  obtain ⟨dx, ho⟩ := id h.ob
  exact h.keep (S := fun x => x = b) (fun x o e hx => s x o e hx) (ne_of ho hb (by intro z; cases z)) hl (ne_of h.dic hb (by intro z; cases z)) fun t xs e => ne_of e hb (by intro z; cases z)
theorem LAt.but {H H' : Hp} {l b : Addr} {ps : List Part} {xs : List V} (h : LAt H l ps) (hb : H b = some (.lst xs)) (hl : l ≠ b) (s : ∀ x o, H x = some o → x ≠ b → H' x = some o) : LAt H' l ps :=
  h.keep (S := fun x => x = b) (fun x o e hx => s x o e hx) hl fun t xs e => ne_of e hb (by intro z; cases z)
theorem PoolAt.but2 {C : Addr} {H H' : Hp} {a l d b c : Addr} {n : Nat} {ps : List Part} {xs : List V} {kvs : List (List Key × V)} (h : PoolAt C H a l d n ps) (hb : H b = some (.lst xs)) (hc : H c = some (.dT kvs)) (hl : l ≠ b) (hd : d ≠ c) (s : ∀ x o, H x = some o → x ≠ b → x ≠ c → H' x = some o) : PoolAt C H' a l d n ps := by
  obtain ⟨dx, ho⟩ := id h.ob
  obtain ⟨ts, hL, _⟩ := id h.lst
  exact h.keep (S := fun x => x = b ∨ x = c) (fun x o e hx => s x o e (fun z => hx (.inl z)) fun z => hx (.inr z))
    (by rintro (z | z); exact ne_of ho hb (by intro z; cases z) z; exact ne_of ho hc (by intro z; cases z) z)
    (by rintro (z | z); exact hl z; exact ne_of hL hc (by intro z; cases z) z)
    (by rintro (z | z); exact ne_of h.dic hb (by intro z; cases z) z; exact hd z)
    (fun t xs e => by rintro (z | z); exact ne_of e hb (by intro z; cases z) z; exact ne_of e hc (by intro z; cases z) z)
theorem LAt.but2 {H H' : Hp} {l b c : Addr} {ps : List Part} {xs : List V} {kvs : List (List Key × V)} (h : LAt H l ps) (hb : H b = some (.lst xs)) (hc : H c = some (.dT kvs)) (hl : l ≠ b) (s : ∀ x o, H x = some o → x ≠ b → x ≠ c → H' x = some o) : LAt H' l ps := by
  obtain ⟨ts, hL, _⟩ := id h
  exact h.keep (S := fun x => x = b ∨ x = c) (fun x o e hx => s x o e (fun z => hx (.inl z)) fun z => hx (.inr z))
    (by rintro (z | z); exact hl z; exact ne_of hL hc (by intro z; cases z) z)
    (fun t xs e => by rintro (z | z); exact ne_of e hb (by intro z; cases z) z; exact ne_of e hc (by intro z; cases z) z)
/-- what list(pool) asks -/
theorem listFacts (T : Txt K mg) {H : Hp} {a l d : Addr} {n : Nat} {ps : List Part} (hp : PoolAt T.C H a l d n ps) (hz : ps.length < 4000) :
    ∃ dx l' ys, H a = some (.ins T.C dx (poolF n l d)) ∧ H l' = some (.lst ys) ∧ ys.length < sizeLine ∧
    (∀ H1, Same H H1 → sp_p_iter T [.ref a] H1 (fun v H' => ∃ it, v = .ref it ∧ H1 it = none ∧ H' = upd H1 it (ItO l' it 0)) E0 ∧ sp_p_len T [.ref a] H1 (fun v H' => v = .int (ys.length : Nat) ∧ H' = H1) E0) ∧
    ∀ (q : Addr) (H' : Hp), Same H H' → H' q = some (.lst ys) → LAt H' q ps := by
  obtain ⟨dx, ho⟩ := id hp.ob
  obtain ⟨ts, hL, hT⟩ := id hp.lst
  have sz : sizeLine = 16777216 := sizeLine_eq
  have el : (ts.map V.ref).length = ps.length := by rw [List.length_map]; exact hT.1
  refine ⟨dx, l, _, ho, hL, by omega, fun H1 s => ⟨⟨a, l, d, n, ps, rfl, hp.news s, fun it h => ⟨it, rfl, h, rfl⟩⟩, ⟨a, l, d, n, ps, rfl, hp.news s, by rw [el], rfl⟩⟩, fun q H' s hq' => ⟨ts, hq', hT.1, fun i p e => ?_⟩⟩
  obtain ⟨t, e1, e2⟩ := hT.2 i p e
  exact ⟨t, e1, s _ _ e2⟩
theorem ok_law_carried_well (T : Txt K mg) : FnOk P w K mg base CX0 7 T.f_law_carried_well T.fd_law_carried_well ["_law_pool", "_law_parts", "_law_number", "_law_other", "_law_made", "_law_width"] (sp_law_carried_well T) := by
  have G_p_iter := ok_p_iter (P := P) (w := w) (base := base) T; have G_p_len := ok_p_len (P := P) (w := w) (base := base) T; have G_law_is_int := ok_law_is_int (P := P) (w := w) (base := base) T; have G_law_moved := ok_law_moved (P := P) (w := w) (base := base) T; have G_carried := ok_carried (P := P) (w := w) (base := base) T
  refine T.F_law_carried_well.ok sc_law_carried_well (fun vs H Q E h => sp_law_carried_well_len h) (fun cdv A outer s H vs Q E hr h => ?_)
  obtain ⟨a, l, d, L, a2, l2, d2, L2, n, w2, ps, qs, i, rfl, hp, hL, ok, h60, hi, hp2, hL2, w1, w12, ok2, hq, ap, k_⟩ := h
  refine ⟨_, (pss_cons (ps_set (i := 6) sc_law_carried_well.nd rfl (Or.inl rfl) (pe_call G_law_moved (hr.mono (by decide)) rfl T.g_law_moved T.F_law_moved.kp T.b_law_moved .nil pass0 (pa_cons (pv 1) (pa_cons (pv 2) (pa_cons (pv 5) (pa_cons (pv 4) pa_nil))))))
       (pss_cons (ps_set (i := 7) sc_law_carried_well.nd rfl (Or.inl rfl) (pe_call G_carried hr rfl T.g_carried T.F_carried.kp T.b_carried .nil passL (pa_cons (pv 0) (pa_cons (pv 2) (pa_cons (pv 3) pa_nil)))))
       (pss_one (ps_ret (pe_and (pe_call G_law_is_int (hr.mono (by decide)) rfl T.g_law_is_int T.F_law_is_int.kp T.b_law_is_int .nil pass0 (pa_cons (pv 7) pa_nil)) (pe_and (pe_cmpR op_eq (pv 7) (pv 6) (nomark _)) (pe_and (pe_cmpR (op_eqD hr.units) (pe_callTy (call_listOwn2 T.m_p_iter.1 T.m_p_iter.2 T.m_p_len.1 (beq_iff_eq.mp T.m_p_len.2) G_p_iter T.b_p_iter G_p_len T.b_p_len rfl (hr.mono (by decide))) (by rfl) T.n_list (by decide +kernel) (pa_cons (pv 3) pa_nil)) (pv 4) (nomark _)) (pe_one (pe_cmpR (op_eqD hr.units) (pe_callTy (call_listOwn2 T.m_p_iter.1 T.m_p_iter.2 T.m_p_len.1 (beq_iff_eq.mp T.m_p_len.2) G_p_iter T.b_p_iter G_p_len T.b_p_len rfl (hr.mono (by decide))) (by rfl) T.n_list (by decide +kernel) (pa_cons (pv 0) pa_nil)) (pv 1) (nomark _)))))))))), ?_⟩
  have sz : sizeLine = 16777216 := sizeLine_eq
  obtain ⟨ts2, hX2, _⟩ := id hL2
  obtain ⟨tsl2, hl2, _⟩ := id hp2.lst
  -- due
  refine ⟨_, rfl, _, rfl, _, rfl, _, rfl, L, L2, n, w2, ps, qs, i, rfl, hL, ok, h60, hi, hL2, w1, w12, ok2, hq, ap.a3, fun H1 ks hr ci hL3 f1 => ?_⟩
  have hp1 := hp.but hX2 ap.a5.symm f1
  have hp12 := hp2.but hX2 ap.a4.symm f1
  have hL1 := hL.but hX2 ap.a3 f1
  -- told
  refine ⟨_, rfl, _, rfl, _, rfl, a, l, d, a2, l2, d2, n, w2, ps, qs, _, rfl, hp1, ok, h60, rfl, hp12, w1, w12, ok2, by omega, ap.a1, ap.a2, fun i' ei _ H2 ks' hr' ci' hp22 f2 => ?_, fun z => absurd (good_of hi) z⟩
  have ei' : i = i' := by injection ei with ei; omega
  subst ei'
  obtain rfl := hr.uniq hr'
  have hd12 := hp12.dic
  obtain ⟨tsx, hl12, _⟩ := id hp12.lst
  have hp3 := hp1.but2 hl12 hd12 ap.a1 ap.a2 f2
  have hL3' := hL3.but2 hl12 hd12 ap.a4 f2
  have hL13 := hL1.but2 hl12 hd12 ap.a6 f2
  have fr : ∀ b o, H b = some o → b ≠ L2 → b ≠ l2 → b ≠ d2 → H2 b = some o := fun b o e h1 h2 h3 => f2 _ _ (f1 _ _ e h1) h2 h3
  have hm : (mCarry w2 ps ks qs).1.length < 4000 := by
    have h1 := ci.len
    have h2 : ks.length ≤ ps.length := nodup_lt (hr.asc.imp fun h => Nat.ne_of_lt h) fun k hk => by have := ((hr.mem k).mp hk).le ok.wf; omega
    omega
  refine ⟨_, rfl, _, rfl, rfl, _, rfl, iteP rfl ?_⟩
  refine ⟨_, rfl, _, rfl, rfl, _, rfl, iteP (dT rfl) ?_⟩
  obtain ⟨dx, l', ys, o1, o2, o3, o4, o5⟩ := listFacts T hp22 hm
  refine ⟨_, rfl, a2, dx, _, l', ys, rfl, o1, o2, o3, o4, fun g H3 hg s3 hg3 => ⟨_, rfl, eqL (o5 g H3 s3 hg3) (hL3'.news s3) ⟨_, rfl, iteP rfl ?_⟩⟩⟩
  obtain ⟨dx', l'', ys', q1, q2, q3, q4, q5⟩ := listFacts T (hp3.news s3) (by omega)
  refine ⟨_, rfl, a, dx', _, l'', ys', rfl, q1, q2, q3, q4, fun g' H4 hg' s4 hg4 => ⟨_, rfl, eqL (q5 g' H4 s4 hg4) ((hL13.news s3).news s4) ?_⟩⟩
  exact k_ H4 ks hr ci ((hp22.news s3).news s4) ((hL3'.news s3).news s4) fun b o e h1 h2 h3 => s4 _ _ (s3 _ _ (fr b o e h1 h2 h3))
end
end My

/-! R9 -/
namespace My
open PySem L2
/-! ### what apply keeps -/
theorem and_nat (a b : Nat) : Builtin.bitAnd (a : Int) (b : Int) = ((a &&& b : Nat) : Int) := by simp [Builtin.bitAnd]
theorem or_nat (a b : Nat) : Builtin.bitOr (a : Int) (b : Int) = ((a ||| b : Nat) : Int) := by rw [Bits.bitOr_pp (by omega) (by omega), Int.toNat_natCast, Int.toNat_natCast]
theorem xor_nat (a b : Nat) : Builtin.bitXor (a : Int) (b : Int) = ((a ^^^ b : Nat) : Int) := by rw [Bits.bitXor_pp (by omega) (by omega), Int.toNat_natCast, Int.toNat_natCast]
def Gd (n : Nat) (x : Int) : Prop := 0 ≤ x ∧ x < 2 ^ n
theorem Gd.nat {n : Nat} {x : Int} (h : Gd n x) : ∃ a : Nat, x = a ∧ a < 2 ^ n := by
  obtain ⟨a, rfl⟩ := Int.eq_ofNat_of_zero_le h.1
  exact ⟨a, rfl, by have := h.2; exact_mod_cast this⟩
theorem Gd.mod {n : Nat} {x : Int} (h : Gd n x) : x % 2 ^ n = x := Int.emod_eq_of_lt h.1 h.2
theorem and_most {n : Nat} {x : Int} (h : Gd n x) : Builtin.bitAnd x (2 ^ n - 1) = x := by
  have e : Builtin.bitAnd x (2 ^ n - 1) = x % 2 ^ n := PySem.W.kbt_mask x n
  rw [e, h.mod]
theorem and_comm' {x y : Int} (hx : 0 ≤ x) (hy : 0 ≤ y) : Builtin.bitAnd x y = Builtin.bitAnd y x := by
  obtain ⟨a, rfl⟩ := Int.eq_ofNat_of_zero_le hx
  obtain ⟨b, rfl⟩ := Int.eq_ofNat_of_zero_le hy
  rw [and_nat, and_nat, Nat.and_comm]
theorem or_comm' {x y : Int} (hx : 0 ≤ x) (hy : 0 ≤ y) : Builtin.bitOr x y = Builtin.bitOr y x := by
  obtain ⟨a, rfl⟩ := Int.eq_ofNat_of_zero_le hx
  obtain ⟨b, rfl⟩ := Int.eq_ofNat_of_zero_le hy
  rw [or_nat, or_nat, Nat.or_comm]
theorem xor_comm' {x y : Int} (hx : 0 ≤ x) (hy : 0 ≤ y) : Builtin.bitXor x y = Builtin.bitXor y x := by
  obtain ⟨a, rfl⟩ := Int.eq_ofNat_of_zero_le hx
  obtain ⟨b, rfl⟩ := Int.eq_ofNat_of_zero_le hy
  rw [xor_nat, xor_nat, Nat.xor_comm]
theorem op_comm {n : Nat} {o : Op} {x y : Int} (h : either o = true) (hx : Gd n x) (hy : Gd n y) : opI n o x y = opI n o y x := by
  cases o <;> simp only [opI] <;> first | (cases h) | skip
  · rw [Int.add_comm]
  · exact and_comm' hx.1 hy.1
  · exact or_comm' hx.1 hy.1
  · exact xor_comm' hx.1 hy.1
  · by_cases e : x = y
    · subst e; rfl
    · rw [if_neg e, if_neg (fun z => e z.symm)]
theorem or_zero' {x : Int} (hx : 0 ≤ x) : Builtin.bitOr x 0 = x ∧ Builtin.bitOr 0 x = x := by
  obtain ⟨a, rfl⟩ := Int.eq_ofNat_of_zero_le hx
  have h1 := or_nat a 0
  have h2 := or_nat 0 a
  simp at h1 h2
  exact ⟨h1, h2⟩
theorem xor_zero' {x : Int} (hx : 0 ≤ x) : Builtin.bitXor x 0 = x ∧ Builtin.bitXor 0 x = x := by
  obtain ⟨a, rfl⟩ := Int.eq_ofNat_of_zero_le hx
  have h1 := xor_nat a 0
  have h2 := xor_nat 0 a
  simp at h1 h2
  exact ⟨h1, h2⟩
theorem and_zero' {x : Int} (hx : 0 ≤ x) : Builtin.bitAnd x 0 = 0 ∧ Builtin.bitAnd 0 x = 0 := by
  obtain ⟨a, rfl⟩ := Int.eq_ofNat_of_zero_le hx
  have h1 := and_nat a 0
  have h2 := and_nat 0 a
  simp at h1 h2
  exact ⟨h1, h2⟩
theorem self_bits {x : Int} (hx : 0 ≤ x) : Builtin.bitAnd x x = x ∧ Builtin.bitOr x x = x ∧ Builtin.bitXor x x = 0 := by
  obtain ⟨a, rfl⟩ := Int.eq_ofNat_of_zero_le hx
  rw [and_nat, or_nat, xor_nat]
  simp
def shSays (n : Nat) (o : Op) (x y : Int) : Sh → Prop
  | .one => opI n o x y = x | .other => opI n o x y = y | .zero => opI n o x y = 0 | .unit => opI n o x y = 1 | .no => True
theorem twice_sound {n : Nat} {o : Op} {x : Int} (hx : Gd n x) : o ≠ .and → shSays n o x x (shTwice o) := by
  intro ho
  have s := self_bits hx.1
  cases o <;> simp [shTwice, shSays, opI, s] <;> exact ho rfl
theorem short_sound {n : Nat} {o : Op} {fa fb : Option Int} {eq : Bool} {x y : Int} (hx : Gd n x) (hy : Gd n y) (ha : ∀ v, fa = some v → x = v) (hb : ∀ v, fb = some v → y = v) (he : eq = true → x = y) : shSays n o x y (shortR o fa fb eq (2 ^ n - 1)) := by
  unfold shortR
  split
  · rename_i h
    obtain ⟨h1, h2⟩ := h
    have e := ha 0 h2
    subst e
    rcases h1 with rfl | rfl | rfl
    · show (0 + y) % 2 ^ n = y; rw [Int.zero_add, hy.mod]
    · exact (or_zero' hy.1).2
    · exact (xor_zero' hy.1).2
  split
  · rename_i _ h
    obtain ⟨h1, h2⟩ := h
    have e := hb 0 h2
    subst e
    rcases h1 with rfl | rfl | rfl
    · show (x + 0) % 2 ^ n = x; rw [Int.add_zero, hx.mod]
    · exact (or_zero' hx.1).1
    · exact (xor_zero' hx.1).1
  split
  · rename_i ho
    subst ho
    unfold shAnd
    split
    · rename_i h
      rcases h with h | h
      · have e := ha 0 h; subst e; exact (and_zero' hy.1).2
      · have e := hb 0 h; subst e; exact (and_zero' hx.1).1
    split
    · rename_i _ h
      have e := ha _ h; subst e
      show Builtin.bitAnd _ y = y
      rw [and_comm' hx.1 hy.1]; exact and_most hy
    split
    · rename_i _ _ h
      rcases h with h | h
      · have e := hb _ h; subst e; exact and_most hx
      · have e := he h; subst e; exact (self_bits hx.1).1
    · trivial
  split
  · rename_i h
    obtain ⟨h1, h2⟩ := h
    have e := hb 0 h1
    subst e; subst h2
    show (x - 0) % 2 ^ n = x; rw [Int.sub_zero, hx.mod]
  split
  · rename_i h
    obtain ⟨h1, h2⟩ := h
    have e := hb 0 h1
    subst e; subst h2
    show (if x < 0 then (1 : Int) else 0) = 0
    rw [if_neg (by have := hx.1; omega)]
  split
  · rename_i ho _ _ h
    have e := he h
    subst e
    exact twice_sound hx ho
  · trivial
def EnvG (n : Nat) (env : Int → Int) : Prop := ∀ g, Gd n (env g)
theorem evAt_gd {n : Nat} (h1 : 1 ≤ n) {env : Int → Int} (he : EnvG n env) {ps : List Part} (h : Ok n ps) : ∀ k, Gd n (evAt n env ps k) := by
  intro k
  induction k using Nat.strongRecOn with
  | ind k ih =>
    by_cases hk : k < ps.length
    · obtain ⟨p, hp⟩ : ∃ p, ps[k]? = some p := ⟨_, List.getElem?_eq_getElem hk⟩
      rw [evAt_eq h.wf hp]
      cases p with
      | num v => exact h.num _ _ hp
      | get g => exact he g
      | op o a b =>
        have := h.wf _ _ _ _ hp
        exact opI_range h1 (ih a this.1) (ih b this.2)
    · have e : evAt n env ps k = 0 := by
        unfold evAt
        rw [List.getD_eq_getElem?_getD, List.getElem?_eq_none (by rw [evs_len]; omega)]; rfl
      rw [e]; exact ⟨Int.le_refl _, pow_pos' n⟩
theorem wordOf_num {ps : List Part} {a : Nat} {x : Int} (e : wordOf ps a = some x) : ps[a]? = some (.num x) := by
  unfold wordOf at e
  cases q : ps[a]? with
  | none => rw [q] at e; cases e
  | some p =>
    rw [q] at e
    cases p with
    | num v => cases e; rfl
    | get i => cases e
    | op o a b => cases e
theorem wordOf_ev {n : Nat} {env : Int → Int} {ps : List Part} (wf : WF ps) {a : Nat} {x : Int} (e : wordOf ps a = some x) : evAt n env ps a = x := by
  rw [evAt_eq wf (wordOf_num e)]
theorem mk_ev {n : Nat} {env : Int → Int} {ps : List Part} {p : Part} (wf : WF (mk ps p).2) : evAt n env (mk ps p).2 (mk ps p).1 = match p with | .num v => v | .get i => env i | .op o a b => opI n o (evAt n env (mk ps p).2 a) (evAt n env (mk ps p).2 b) := by
  rw [evAt_eq wf (mk_at ps p)]; cases p <;> rfl
theorem fin_ev {n : Nat} (h1 : 1 ≤ n) {env : Int → Int} {ps : List Part} (h : Ok n ps) {o : Op} {a b : Nat} (ha : a < ps.length) (hb : b < ps.length) {s : Sh} (hs : shSays n o (evAt n env ps a) (evAt n env ps b) s) :
    evAt n env (fin ps o a b s).2 (fin ps o a b s).1 = opI n o (evAt n env ps a) (evAt n env ps b) := by
  have wf := (ok_fin h1 h (o := o) ha hb s).wf
  cases s with
  | one => exact hs.symm
  | other => exact hs.symm
  | zero => exact (mk_ev wf).trans hs.symm
  | unit => exact (mk_ev wf).trans hs.symm
  | no =>
    refine (mk_ev wf).trans ?_
    show opI n o (evAt n env (mk ps (.op o a b)).2 a) (evAt n env (mk ps (.op o a b)).2 b) = _
    rw [evAt_pre (mk_pre _ _) ha, evAt_pre (mk_pre _ _) hb]
theorem mApply_ev {n : Nat} (h1 : 1 ≤ n) {env : Int → Int} (he : EnvG n env) {ps : List Part} (h : Ok n ps) {o : Op} {a b : Nat} (ha : a < ps.length) (hb : b < ps.length) :
    evAt n env (mApply n ps o a b).2 (mApply n ps o a b).1 = opI n o (evAt n env ps a) (evAt n env ps b) := by
  have ga := evAt_gd h1 he h a
  have gb := evAt_gd h1 he h b
  have okm := ok_mApply h1 h (o := o) ha hb
  unfold mApply at okm ⊢
  split
  · rename_i x y ea eb
    rw [ea, eb] at okm
    rw [wordOf_ev h.wf ea, wordOf_ev h.wf eb]
    exact mk_ev okm.wf
  · clear okm
    split
    · rename_i hc
      rw [fin_ev h1 h hb ha (short_sound gb ga (fun v e => wordOf_ev h.wf e) (fun v e => wordOf_ev h.wf e) fun e => by rw [of_decide_eq_true e])]
      exact op_comm hc.1 gb ga
    · exact fin_ev h1 h ha hb (short_sound ga gb (fun v e => wordOf_ev h.wf e) (fun v e => wordOf_ev h.wf e) fun e => by rw [of_decide_eq_true e])
/-! ### rows made have the words of the rows -/
theorem evs_getD (n : Nat) (env : Int → Int) (ps : List Part) (k : Nat) : (evs n env ps).getD k 0 = evAt n env ps k := rfl
theorem mAll_ev {n u : Nat} (h1 : 1 ≤ n) {plain : Bool} {rs : List Part} (h : Rows n u plain rs) {env : Int → Int} (he : EnvG n env) : ∀ j, j ≤ rs.length → ∀ k, k < j → evAt n env (mAll n (rs.take j)).1 ((mAll n (rs.take j)).2.getD k 0) = evAt n env rs k := by
  intro j
  induction j with
  | zero => intro _ k hk; omega
  | succ j ih =>
    intro hj k hk
    obtain ⟨r, hr⟩ : ∃ p, rs[j]? = some p := ⟨_, List.getElem?_eq_getElem (by omega)⟩
    have hl : (rs.take j).length = j := by rw [List.length_take]; omega
    have inv := mAll_inv h1 h j
    have rk : RowOk n u plain (rs.take j).length r := by rw [hl]; exact rowOk_at h hr
    obtain ⟨st1, st2, st3⟩ := inv.step h1 rk
    have hin := inv.rowIn rk
    have pl : (mAll n (rs.take j)).2.length = j := by rw [inv.plen, hl]
    rw [take_snoc hr, mAll_snoc]
    have old : ∀ i, i < j → evAt n env (mStep n (mAll n (rs.take j)) r).1 ((mAll n (rs.take j)).2.getD i 0) = evAt n env rs i := fun i hi => by
      rw [evAt_pre st2 (by rw [List.getD_eq_getElem?_getD, List.getElem?_eq_getElem (by omega)]; exact inv.there _ (List.getElem_mem (by omega)))]
      exact ih (by omega) i hi
    have e2 : (mStep n (mAll n (rs.take j)) r).2 = (mAll n (rs.take j)).2 ++ [(mPart n (mAll n (rs.take j)).1 r (mAll n (rs.take j)).2).1] := rfl
    rw [e2]
    by_cases hkj : k < j
    · rw [List.getD_eq_getElem?_getD, List.getElem?_append_left (by omega), ← List.getD_eq_getElem?_getD]
      exact old k hkj
    · have ek : k = j := by omega
      subst ek
      rw [List.getD_eq_getElem?_getD, List.getElem?_append_right (by omega), pl, Nat.sub_self]
      show evAt n env (mPart n (mAll n (rs.take k)).1 r (mAll n (rs.take k)).2).2 (mPart n (mAll n (rs.take k)).1 r (mAll n (rs.take k)).2).1 = _
      rw [evAt_eq h.ok.wf hr]
      cases r with
      | num v => exact mk_ev st1.rows.ok.wf
      | get g => exact mk_ev st1.rows.ok.wf
      | op o a b =>
        obtain ⟨ha, hb⟩ := hin.ahead o a b rfl
        have ab := h.ok.wf _ _ _ _ hr
        show evAt n env (mApply n _ o _ _).2 (mApply n _ o _ _).1 = opI n o _ _
        rw [mApply_ev h1 he inv.rows.ok (hin.at ha) (hin.at hb), ih (by omega) a ab.1, ih (by omega) b ab.2]
theorem mAll_words {n u : Nat} (h1 : 1 ≤ n) {plain : Bool} {rs : List Part} (h : Rows n u plain rs) {env : Int → Int} (he : EnvG n env) {k : Nat} (hk : k < rs.length) : evAt n env (mAll n rs).1 ((mAll n rs).2.getD k 0) = evAt n env rs k := by
  have := mAll_ev h1 h he rs.length (Nat.le_refl _) k hk
  rw [List.take_length] at this
  exact this
end My

/-! R10 -/
namespace My
open PySem L2
theorem pow_dvd' {m n : Nat} (h : m ≤ n) : (2 : Int) ^ m ∣ 2 ^ n := by
  obtain ⟨k, rfl⟩ : ∃ k, n = m + k := ⟨n - m, by omega⟩
  exact ⟨2 ^ k, by rw [Int.pow_add]⟩
theorem mod_mod' {m n : Nat} (h : m ≤ n) (x : Int) : x % 2 ^ n % 2 ^ m = x % 2 ^ m := Int.emod_emod_of_dvd _ (pow_dvd' h)
theorem nat_mod_cast (a m : Nat) : ((a : Int) % 2 ^ m) = ((a % 2 ^ m : Nat) : Int) := by
  have : (2 : Int) ^ m = ((2 ^ m : Nat) : Int) := by push_cast; rfl
  rw [this]; norm_cast
theorem opmod_keeps {m n : Nat} (h : m ≤ n) {o : Op} (h1 : o ≠ .less) (h2 : o ≠ .same) {x y : Int} (hx : Gd n x) (hy : Gd n y) : opI m o (x % 2 ^ m) (y % 2 ^ m) = opI n o x y % 2 ^ m := by
  cases o with
  | add => show (x % 2 ^ m + y % 2 ^ m) % 2 ^ m = (x + y) % 2 ^ n % 2 ^ m; rw [mod_mod' h, ← Int.add_emod]
  | sub => show (x % 2 ^ m - y % 2 ^ m) % 2 ^ m = (x - y) % 2 ^ n % 2 ^ m; rw [mod_mod' h, ← Int.sub_emod]
  | and =>
    obtain ⟨a, rfl, _⟩ := hx.nat
    obtain ⟨b, rfl, _⟩ := hy.nat
    simp only [opI]
    rw [nat_mod_cast, nat_mod_cast, and_nat, and_nat, nat_mod_cast, Nat.and_mod_two_pow]
  | or =>
    obtain ⟨a, rfl, _⟩ := hx.nat
    obtain ⟨b, rfl, _⟩ := hy.nat
    simp only [opI]
    rw [nat_mod_cast, nat_mod_cast, or_nat, or_nat, nat_mod_cast, Nat.or_mod_two_pow]
  | xor =>
    obtain ⟨a, rfl, _⟩ := hx.nat
    obtain ⟨b, rfl, _⟩ := hy.nat
    simp only [opI]
    rw [nat_mod_cast, nat_mod_cast, xor_nat, xor_nat, nat_mod_cast, Nat.xor_mod_two_pow]
  | less => exact absurd rfl h1
  | same => exact absurd rfl h2
theorem gd_mod (m : Nat) (x : Int) : Gd m (x % 2 ^ m) := ⟨Int.emod_nonneg _ (by have := pow_pos' m; omega), Int.emod_lt_of_pos _ (pow_pos' m)⟩
theorem hab_take {ps : List Part} (wf : WF ps) {i : Nat} {ks : List Nat} (hr : ReachL ps i ks) {j k : Nat} {p : Part} (hkj : ks[j]? = some k) (hp : ps[k]? = some p) : ∀ o a b, p = Part.op o a b → a ∈ ks.take j ∧ b ∈ ks.take j := fun o a b e => by
  subst e
  have hkr := (hr.mem k).mp (List.mem_of_getElem? hkj)
  have := wf _ _ _ _ hp
  exact ⟨asc_take hr.asc hkj ((hr.mem a).mpr (.left hkr hp)) this.1, asc_take hr.asc hkj ((hr.mem b).mpr (.right hkr hp)) this.2⟩
theorem mCarry_snoc (m : Nat) (ps : List Part) (ks : List Nat) (k : Nat) (qs : List Part) : mCarry m ps (ks ++ [k]) qs = cstep m ps (mCarry m ps ks qs) k := by unfold mCarry; rw [List.foldl_append]; rfl
/-- what one step of carrying leaves -/
structure CSem (n m u : Nat) (plain : Bool) (env : Int → Int) (ps qs : List Part) (done : List Nat) (st : List Part × List (Nat × Nat)) : Prop where
  inv : CInv m ps qs done st
  rows : Rows m u plain st.1
  sem : plain = true → m ≤ n → ∀ k ∈ done, evAt m (fun g => env g % 2 ^ m) st.1 (look st.2 k) = evAt n env ps k % 2 ^ m
theorem CSem.step {n m u : Nat} {plain : Bool} {env : Int → Int} {ps qs : List Part} {done : List Nat} {st : List Part × List (Nat × Nat)} (n1 : 1 ≤ n) (m1 : 1 ≤ m) (he : EnvG n env) (hp : Rows n u plain ps) (c : CSem n m u plain env ps qs done st)
    {k : Nat} {p : Part} (e : ps[k]? = some p) (hab : ∀ o a b, p = Part.op o a b → a ∈ done ∧ b ∈ done) (hnd : k ∉ done) : CSem n m u plain env ps qs (done ++ [k]) (cstep m ps st k) := by
  have ci2 := c.inv.step m1 hp.ok.get e hab
  have hm : EnvG m (fun g => env g % 2 ^ m) := fun g => gd_mod m _
  have key : Rows m u plain (cstepR m ps st k).2 ∧ st.1 <+: (cstepR m ps st k).2 ∧ (plain = true → m ≤ n → evAt m (fun g => env g % 2 ^ m) (cstepR m ps st k).2 (cstepR m ps st k).1 = evAt n env ps k % 2 ^ m) := by
    cases p with
    | num v =>
      have er : cstepR m ps st k = My.mk st.1 (.num (v % 2 ^ m)) := by unfold cstepR; rw [e]
      have ev : evAt n env ps k = v := evAt_eq hp.ok.wf e
      rw [er, ev]
      have r := rows_mk c.rows (p := .num (v % 2 ^ m)) (rowOk_num (gd_mod m v))
      exact ⟨r, mk_pre _ _, fun _ _ => mk_ev r.ok.wf⟩
    | get g =>
      have er : cstepR m ps st k = My.mk st.1 (.get g) := by unfold cstepR; rw [e]
      have ev : evAt n env ps k = env g := evAt_eq hp.ok.wf e
      rw [er, ev]
      have rk := rowOk_at hp e
      have r := rows_mk c.rows (p := .get g) ⟨trivial, rk.2.1, rk.2.2.1, fun _ o a b e => by cases e⟩
      exact ⟨r, mk_pre _ _, fun _ _ => mk_ev r.ok.wf⟩
    | op o a b =>
      obtain ⟨ha, hb⟩ := hab o a b rfl
      have er : cstepR m ps st k = mApply m st.1 o (look st.2 a) (look st.2 b) := by unfold cstepR; rw [e]
      have ev : evAt n env ps k = opI n o (evAt n env ps a) (evAt n env ps b) := evAt_eq hp.ok.wf e
      rw [er, ev]
      refine ⟨rows_mApply m1 c.rows (c.inv.look ha) (c.inv.look hb) (fun q => hp.pln q _ _ _ _ e), mApply_pre _ _ _ _ _, fun q hmn => ?_⟩
      have ho := hp.pln q _ _ _ _ e
      rw [mApply_ev m1 hm c.inv.ok (c.inv.look ha) (c.inv.look hb), c.sem q hmn a ha, c.sem q hmn b hb]
      exact opmod_keeps hmn ho.1 ho.2 (evAt_gd n1 he hp.ok a) (evAt_gd n1 he hp.ok b)
  refine ⟨ci2, key.1, fun q hmn z hz => ?_⟩
  have es : (cstep m ps st k).2 = st.2 ++ [(k, (cstepR m ps st k).1)] := rfl
  have es1 : (cstep m ps st k).1 = (cstepR m ps st k).2 := rfl
  rw [es, es1]
  rcases List.mem_append.mp hz with hz | hz
  · rw [look_snoc_old _ (by rw [c.inv.keys]; exact hz), evAt_pre key.2.1 (c.inv.look hz)]
    exact c.sem q hmn z hz
  · simp at hz; subst hz
    rw [look_snoc_new (by rw [c.inv.keys]; exact hnd)]
    exact key.2.2 q hmn
theorem carry_sem {n m u : Nat} {plain : Bool} {env : Int → Int} {ps qs : List Part} {i : Nat} {ks : List Nat} (n1 : 1 ≤ n) (m1 : 1 ≤ m) (he : EnvG n env) (hp : Rows n u plain ps) (hq : Rows m u plain qs) (hr : ReachL ps i ks) (hi : i < ps.length) :
    ∀ j, CSem n m u plain env ps qs (ks.take j) (mCarry m ps (ks.take j) qs) := by
  intro j
  induction j with
  | zero => rw [List.take_zero]; exact ⟨CInv.start hq.ok, hq, fun _ _ k h => by simp at h⟩
  | succ j ih =>
    by_cases hj : j < ks.length
    · obtain ⟨k, hk⟩ : ∃ k, ks[j]? = some k := ⟨_, List.getElem?_eq_getElem hj⟩
      have hkl : k < ps.length := by have := ((hr.mem k).mp (List.mem_of_getElem? hk)).le hp.ok.wf; omega
      obtain ⟨p, e⟩ : ∃ p, ps[k]? = some p := ⟨_, List.getElem?_eq_getElem hkl⟩
      rw [take_snoc hk, mCarry_snoc]
      exact ih.step n1 m1 he hp e (hab_take hp.ok.wf hr hk e) (not_in_take hr.asc hk)
    · rw [List.take_of_length_le (by omega)]
      rw [List.take_of_length_le (by omega)] at ih
      exact ih
theorem env0 (n : Nat) : EnvG n (fun _ => 0) := fun _ => ⟨Int.le_refl _, pow_pos' n⟩
theorem carry_rows {n m u : Nat} {plain : Bool} {ps qs : List Part} {i : Nat} {ks : List Nat} (n1 : 1 ≤ n) (m1 : 1 ≤ m) (hp : Rows n u plain ps) (hq : Rows m u plain qs) (hr : ReachL ps i ks) (hi : i < ps.length) : Rows m u plain (mCarry m ps ks qs).1 := by
  have := (carry_sem n1 m1 (env0 n) hp hq hr hi ks.length).rows
  rw [List.take_length] at this
  exact this
theorem carry_words {n m u : Nat} {env : Int → Int} {ps qs : List Part} {i : Nat} {ks : List Nat} (n1 : 1 ≤ n) (m1 : 1 ≤ m) (hmn : m ≤ n) (he : EnvG n env) (hp : Rows n u true ps) (hq : Rows m u true qs) (hr : ReachL ps i ks) (hi : i < ps.length) :
    evAt m (fun g => env g % 2 ^ m) (mCarry m ps ks qs).1 (look (mCarry m ps ks qs).2 i) = evAt n env ps i % 2 ^ m := by
  have := (carry_sem n1 m1 he hp hq hr hi ks.length).sem
  rw [List.take_length] at this
  exact this rfl hmn i ((hr.mem i).mpr .self)
theorem reach_len {ps : List Part} {i : Nat} {ks : List Nat} (wf : WF ps) (hr : ReachL ps i ks) (hi : i < ps.length) : ks.length ≤ ps.length :=
  nodup_lt (hr.asc.imp fun h => Nat.ne_of_lt h) fun k hk => by have := ((hr.mem k).mp hk).le wf; omega
/-- the same words, by the low words of a row -/
theorem envOf_low (ws : List Int) (m : Nat) : envOf (ws.map fun x => x % 2 ^ m) = fun g => envOf ws g % 2 ^ m := by
  funext g
  unfold envOf
  rw [List.getD_eq_getElem?_getD, List.getD_eq_getElem?_getD, List.getElem?_map]
  cases ws[g.toNat]? with
  | none => simp
  | some x => rfl
theorem env_of {n : Nat} {ws : List Int} (h : ∀ x ∈ ws, 0 ≤ x ∧ x < 2 ^ n) : EnvG n (envOf ws) := fun g => by
  unfold envOf
  rw [List.getD_eq_getElem?_getD]
  cases e : ws[g.toNat]? with
  | none => exact ⟨Int.le_refl _, pow_pos' n⟩
  | some x => exact h x (List.mem_of_getElem? e)
end My

/-! R11 -/
namespace My
open PySem L2
theorem Gd.up {m n : Nat} (h : m ≤ n) {x : Int} (g : Gd m x) : Gd n x := by
  refine ⟨g.1, Int.lt_of_lt_of_le g.2 ?_⟩
  have : (2 : Nat) ^ m ≤ 2 ^ n := Nat.pow_le_pow_right (by decide) h
  exact_mod_cast this
theorem env_same {m : Nat} {env : Int → Int} (h : EnvG m env) : (fun g => env g % 2 ^ m) = env := funext fun g => (h g).mod
theorem env_one {m : Nat} {v : Int} (h : Gd m v) : EnvG m (envOf [v]) := env_of fun x hx => by simp at hx; subst hx; exact h
/-! ### x + x -/
def dps : List Part := [.get 0, .op .add 0 0]
theorem dps_rows (n : Nat) : Rows n 1 true dps := ((rows_nil n 1 true).snoc (p := .get 0) ⟨trivial, ⟨by decide, by decide⟩, fun g e => (by cases e; decide), fun _ o a b e => by cases e⟩).snoc (p := .op .add 0 0) ⟨⟨by decide, by decide⟩, trivial, fun g e => (by cases e), fun _ o a b e => by cases e; exact ⟨by decide, by decide⟩⟩
theorem dps_val {n m : Nat} (n1 : 1 ≤ n) (m1 : 1 ≤ m) (hmn : m ≤ n) {ks : List Nat} (hr : ReachL dps 1 ks) {v : Int} (hv : Gd m v) : evAt m (envOf [v]) (mCarry m dps ks []).1 (look (mCarry m dps ks []).2 1) = (v + v) % 2 ^ m := by
  have := carry_words n1 m1 hmn (env_one (hv.up hmn)) (dps_rows n) (rows_nil m 1 true) hr (by decide)
  rw [env_same (env_one hv)] at this
  rw [this]
  have ev : evAt n (envOf [v]) dps 1 = (v + v) % 2 ^ n := by simp [evAt, evs, evStep, evV, opI, envOf, dps]
  rw [ev, mod_mod' hmn]
/-! ### pairs that undo themselves -/
theorem add_sub' {n : Nat} {x y : Int} (hx : Gd n x) : ((x + y) % 2 ^ n - y) % 2 ^ n = x := by
  rw [Int.sub_emod, Int.emod_emod_of_dvd _ (Int.dvd_refl _), ← Int.sub_emod, Int.add_sub_cancel, hx.mod]
theorem xor_xor' {n : Nat} {x y : Int} (hx : Gd n x) (hy : Gd n y) : Builtin.bitXor (Builtin.bitXor x y) y = x := by
  obtain ⟨a, rfl, _⟩ := hx.nat
  obtain ⟨b, rfl, _⟩ := hy.nat
  rw [xor_nat, xor_nat, Nat.xor_assoc, Nat.xor_self, Nat.xor_zero]
end My

/-! LL -/
namespace My
open PySem L2
local macro_rules | `(tactic| walk_at "side") => `(tactic| first | with_reducible rfl | assumption | rfl | decide | omega | exact cpow1 (by omega) (by omega) | exact cdiv (by omega) (by omega) | exact two_pos _ | exact SqL.of (by assumption) | exact SqT.of (by assumption) | exact TyX.base (TyOf.int _) | exact TyX.base (TyOf.bl _) | exact TyX.base TyOf.non | exact scal_opt _ _ | exact k_ii | exact k_bi | exact k_ni | exact k_ib | exact k_bb | exact TyX.base (TyOf.lst (by assumption)) | exact k_ll | exact k_lt)
local macro_rules | `(tactic| walk_at "p") => `(tactic| repeat (first | refine And.intro (by walk_at "side") ?_ | apply Exists.intro | refine iteN (by assumption) ?_ | refine iteP (by assumption) ?_ | refine iteN (by decide) ?_ | refine iteP (by decide) ?_))

section
variable {P : Program} {w : World} {K : PySem.W.Frag} {mg : Str → Option Value} {base : Heap}
def sp_law_low_words (T : Txt K mg) : Sp := fun vs H Q _ => ∃ (a l d q : Addr) (n u : Nat) (plain : Bool) (ps : List Part) (i : Nat) (ws : List Int) (due : Int), vs = [.ref a, .int i, .ref q, .int due, .int n] ∧ PoolAt T.C H a l d n ps ∧ Rows n u plain ps ∧ ps.length < 60 ∧ n ≤ 12 ∧ i < ps.length ∧ H q = some (.lst (intL ws)) ∧ ws.length < 100 ∧ u ≤ ws.length ∧
  evAt n (fun g => envOf ws g % 2 ^ n) ps i = due % 2 ^ n ∧ ∀ H', Same H H' → Q (.bl true) H'
theorem sp_law_low_words_len {T : Txt K mg} {vs H Q E} (h : sp_law_low_words T vs H Q E) : vs.length = 5 := by obtain ⟨_, _, _, _, _, _, _, _, _, _, _, rfl, _⟩ := h; rfl
theorem ok_law_low_words (T : Txt K mg) : FnOk P w K mg base CX0 7 T.f_law_low_words T.fd_law_low_words ["_law_pool", "_law_part_here", "_law_words", "_law_due", "_law_width"] (sp_law_low_words T) := by
  have G_p_value := ok_p_value (P := P) (w := w) (base := base) T; have G_law_is_int := ok_law_is_int (P := P) (w := w) (base := base) T; have G_law_low := ok_law_low (P := P) (w := w) (base := base) T
  refine T.F_law_low_words.ok sc_law_low_words (fun vs H Q E h => sp_law_low_words_len h) (fun cdv A outer s H vs Q E hr h => ?_)
  obtain ⟨a, l, d, q, n, u, plain, ps, i, ws, due, rfl, hp, ro, h60, n12, hi, hq, h100, hu, hev, k⟩ := h
  refine ⟨_, (pss_cons (ps_set (i := 5) sc_law_low_words.nd rfl (Or.inl rfl) (pe_meth (pv 0) T.cl T.m_p_value G_p_value hr T.b_p_value .nil pass0 (pa_cons (pv 1) (pa_cons (pe_call G_law_low (hr.mono (by decide)) rfl T.g_law_low T.F_law_low.kp T.b_law_low .nil pass0 (pa_cons (pv 2) (pa_cons (pv 4) pa_nil))) pa_nil))))
       (pss_one (ps_ret (pe_and (pe_call G_law_is_int (hr.mono (by decide)) rfl T.g_law_is_int T.F_law_is_int.kp T.b_law_is_int .nil pass0 (pa_cons (pv 5) pa_nil)) (pe_one (pe_cmpR op_eq (pv 5) (pe_op op_mod (pe_callTy call_intI (by rfl) T.n_int (by decide +kernel) (pa_cons (pv 3) pa_nil)) (pe_op op_shl pe_int (pv 4))) (nomark _))))))), ?_⟩
  obtain ⟨dx, ho⟩ := id hp.ob
  refine ⟨_, rfl, a, dx, _, rfl, ho, no_meth (by decide +kernel), _, rfl, _, rfl, _, rfl, q, n, ws, rfl, hq, n12, h100, fun H1 t s1 ht ht1 => ?_⟩
  refine ⟨a, l, d, t, n, ps, i, ws.map fun x => x % 2 ^ n, rfl, hp.news s1, ro.ok, h60, n12, hi, ht1, fun x hx => ?_, fun k g e => ?_, fun H2 s2 => ?_⟩
  · obtain ⟨y, _, rfl⟩ := List.mem_map.mp hx
    exact gd_mod n y
  · have := ro.gets k g e
    rw [List.length_map]; omega
  rw [envOf_low, hev]
  refine ⟨_, rfl, _, rfl, rfl, _, rfl, iteP rfl ?_⟩
  refine ⟨_, rfl, _, rfl, due, rfl, _, rfl, _, _, rfl, rfl, cpow1 (by omega) (by omega), _, _, rfl, rfl, two_pos _, rfl, ?_⟩
  have em : due % (1 * 2 ^ (n : Int).toNat) = due % 2 ^ n := by rw [Int.one_mul, Int.toNat_natCast]
  have k2 := k H2 (s1.trans s2)
  have : (decide (V.int (due % 2 ^ n) = V.int (due % (1 * 2 ^ (n : Int).toNat)))) = true := dT (by rw [em])
  show Q (V.bl (decide (V.int (due % 2 ^ n) = V.int (due % (1 * 2 ^ (n : Int).toNat))))) H2
  rw [this]; exact k2
/-- a new pool: what it leaves -/
theorem mkFacts {C : Addr} {H1 H2 : Hp} {x dx l d : Addr} (hx : H1 x = none) (hdx : H1 dx = none) (hl : upd (upd H1 dx (.own x)) x (.ins C dx []) l = none) (hd : upd (upd H1 dx (.own x)) x (.ins C dx []) d = none)
    (f : ∀ b o, upd (upd H1 dx (.own x)) x (.ins C dx []) b = some o → b ≠ x → H2 b = some o) : Same H1 H2 ∧ H1 l = none ∧ H1 d = none := by
  have none_of : ∀ b : Addr, upd (upd H1 dx (.own x)) x (.ins C dx []) b = none → H1 b = none := fun b e => by
    by_cases h1 : b = x
    · subst h1; exact hx
    · rw [upd_ne h1] at e
      by_cases h2 : b = dx
      · subst h2; exact hdx
      · rw [upd_ne h2] at e; exact e
  refine ⟨fun b o e => ?_, none_of l hl, none_of d hd⟩
  have h1 : b ≠ x := ne_of_none e hx
  have h2 : b ≠ dx := ne_of_none e hdx
  exact f b o (by rw [upd_ne h1, upd_ne h2]; exact e) h1
theorem gd_one {m : Nat} {v : Int} (h : Gd m v) : ∀ x ∈ [v], 0 ≤ x ∧ x < 2 ^ m := fun x hx => by simp at hx; subst hx; exact h
def sp_law_doubled (T : Txt K mg) : Sp := fun vs H Q _ => ∃ (n : Nat), vs = [.int n] ∧ 2 ≤ n ∧ n ≤ 12 ∧ ∀ H', Same H H' → Q (.bl true) H'
theorem sp_law_doubled_len {T : Txt K mg} {vs H Q E} (h : sp_law_doubled T vs H Q E) : vs.length = 1 := by obtain ⟨_, rfl, _⟩ := h; rfl
theorem ok_law_doubled (T : Txt K mg) : FnOk P w K mg base CX0 7 T.f_law_doubled T.fd_law_doubled ["_law_width"] (sp_law_doubled T) := by
  have G_p_apply := ok_p_apply (P := P) (w := w) (base := base) T; have G_p_unknown := ok_p_unknown (P := P) (w := w) (base := base) T; have G_p_value := ok_p_value (P := P) (w := w) (base := base) T; have G_p_init := ok_p_init (P := P) (w := w) (base := base) T; have G_carried := ok_carried (P := P) (w := w) (base := base) T
  refine T.F_law_doubled.ok sc_law_doubled (fun vs H Q E h => sp_law_doubled_len h) (fun cdv A outer s H vs Q E hr h => ?_)
  obtain ⟨n, rfl, n2, n12, k⟩ := h
  refine ⟨_, (pss_cons (ps_set (i := 1) sc_law_doubled.nd rfl (Or.inl rfl) (pe_make T.M_Pool G_p_init (hr.mono (by decide)) rfl T.g_Pool T.b_p_init .nil pass0 (pa_cons (pv 0) pa_nil)))
       (pss_cons (ps_set (i := 2) sc_law_doubled.nd rfl (Or.inl rfl) (pe_meth (pv 1) T.cl T.m_p_unknown G_p_unknown (hr.mono (by decide)) T.b_p_unknown .nil pass0 (pa_cons pe_int pa_nil)))
       (pss_cons (ps_set (i := 3) sc_law_doubled.nd rfl (Or.inl rfl) (pe_meth (pv 1) T.cl T.m_p_apply G_p_apply (hr.mono (by decide)) T.b_p_apply .nil pass0 (pa_cons pe_str (pa_cons (pv 2) (pa_cons (pv 2) pa_nil)))))
       (pss_cons (ps_set (i := 4) sc_law_doubled.nd rfl (Or.inl rfl) (pe_make T.M_Pool G_p_init (hr.mono (by decide)) rfl T.g_Pool T.b_p_init .nil pass0 (pa_cons pe_int pa_nil)))
       (pss_cons (ps_set (i := 5) sc_law_doubled.nd rfl (Or.inl rfl) (pe_make T.M_Pool G_p_init (hr.mono (by decide)) rfl T.g_Pool T.b_p_init .nil pass0 (pa_cons pe_int pa_nil)))
       (pss_cons (ps_set (i := 6) sc_law_doubled.nd rfl (Or.inl rfl) (pe_call G_carried hr rfl T.g_carried T.F_carried.kp T.b_carried .nil passL (pa_cons (pv 1) (pa_cons (pv 3) (pa_cons (pv 4) pa_nil)))))
       (pss_cons (ps_set (i := 7) sc_law_doubled.nd rfl (Or.inl rfl) (pe_call G_carried hr rfl T.g_carried T.F_carried.kp T.b_carried .nil passL (pa_cons (pv 1) (pa_cons (pv 3) (pa_cons (pv 5) pa_nil)))))
       (pss_cons (ps_if (PW.pt (pw_or (pt_cmpR op_ne (pe_meth (pv 4) T.cl T.m_p_value G_p_value hr T.b_p_value .nil pass0 (pa_cons (pv 6) (pa_cons (pe_lst (pa_cons pe_int pa_nil)) pa_nil))) pe_int (nomark _)) (pw_or1 (pt_cmpR op_ne (pe_meth (pv 4) T.cl T.m_p_value G_p_value hr T.b_p_value .nil pass0 (pa_cons (pv 6) (pa_cons (pe_lst (pa_cons pe_int pa_nil)) pa_nil))) pe_int (nomark _)))))
        (pss_one (ps_ret pe_bl))
        pss_nil)
       (pss_one (ps_ret (pe_and (pe_cmpR op_eq (pe_meth (pv 5) T.cl T.m_p_value G_p_value hr T.b_p_value .nil pass0 (pa_cons (pv 7) (pa_cons (pe_lst (pa_cons pe_int pa_nil)) pa_nil))) pe_int (nomark _)) (pe_and (pe_cmpR op_eq (pe_meth (pv 5) T.cl T.m_p_value G_p_value hr T.b_p_value .nil pass0 (pa_cons (pv 7) (pa_cons (pe_lst (pa_cons pe_int pa_nil)) pa_nil))) pe_int (nomark _)) (pe_one (pe_cmpR op_eq (pe_meth (pv 5) T.cl T.m_p_value G_p_value hr T.b_p_value .nil pass0 (pa_cons (pv 7) (pa_cons (pe_lst (pa_cons pe_int pa_nil)) pa_nil))) pe_int (nomark _))))))))))))))), ?_⟩
  -- pool, x, x + x
  refine ⟨_, rfl, fun a dx ha hdx hne => ⟨a, dx, n, rfl, upd_same, by omega, n12, fun H1 l d hl hd _ hp1 f1 => ⟨rfl, ?_⟩⟩⟩
  obtain ⟨s1, hl, hd⟩ := mkFacts ha hdx hl hd f1
  obtain ⟨dx1, ho1⟩ := id hp1.ob
  refine ⟨_, rfl, a, dx1, _, rfl, ho1, no_meth (by decide +kernel), a, l, d, n, [], 0, rfl, hp1, by decide, by decide, by decide, fun H2 hp2 f2 => ?_⟩
  have s2 : Same H H2 := fun b o e => f2 b o (s1 b o e) (ne_of_none e hl) (ne_of_none e hd)
  have hp2 : PoolAt T.C H2 a l d n [.get 0] := hp2
  obtain ⟨dx2, ho2⟩ := id hp2.ob
  refine ⟨_, rfl, a, dx2, _, rfl, ho2, no_meth (by decide +kernel), _, rfl, _, rfl, a, l, d, n, [.get 0], .add, 0, 0, rfl, hp2, by decide, n12, by decide, by decide, fun H3 hp3 f3 => ?_⟩
  have s3 : Same H H3 := fun b o e => f3 b o (s2 b o e) (ne_of_none e hl) (ne_of_none e hd)
  have em : mApply n [.get 0] .add 0 0 = (1, [.get 0, .op .add 0 0]) := by simp [mApply, wordOf, Part.word, either, shortR, shTwice, fin, mk]
  rw [em] at hp3 ⊢
  have hp3 : PoolAt T.C H3 a l d n [.get 0, .op .add 0 0] := hp3
  have l3 := hp3.lst
  have d3 := hp3.dic
  obtain ⟨tsl, hl3, _⟩ := id l3
  -- one, two
  refine fun b dxb hb hdxb hneb => ⟨b, dxb, 1, rfl, upd_same, by omega, by omega, fun H4 l4 d4 hl4 hd4 _ hp4 f4 => ⟨rfl, ?_⟩⟩
  obtain ⟨s4, hl4, hd4⟩ := mkFacts hb hdxb hl4 hd4 f4
  refine fun c dxc hc hdxc hnec => ⟨c, dxc, 2, rfl, upd_same, by omega, by omega, fun H5 l5 d5 hl5 hd5 _ hp5 f5 => ⟨rfl, ?_⟩⟩
  obtain ⟨s5, hl5, hd5⟩ := mkFacts hc hdxc hl5 hd5 f5
  have hl5n : l ≠ l5 := ne_of_none (s4 _ _ hl3) hl5
  have hd5n : d ≠ d5 := ne_of_none (s4 _ _ d3) hd5
  obtain ⟨ts4, hl4', _⟩ := id hp4.lst
  have l45 : l4 ≠ l5 := ne_of_none hl4' hl5
  have d45 : d4 ≠ d5 := ne_of_none hp4.dic hd5
  refine ⟨_, rfl, _, rfl, _, rfl, a, l, d, b, l4, d4, n, 1, dps, [], _, rfl, hp3.news (s4.trans s5), (dps_rows n).ok, by decide, rfl, hp4.news s5, by decide, by decide, ok_nil _, by decide, ne_of_none hl3 hl4, ne_of_none d3 hd4, fun i ei hi H6 ks hr ci hp6 f6 => ?_, fun z => absurd (good_of (i := 1) (by decide)) z⟩
  have ei1 : 1 = i := by injection ei with ei; omega
  subst ei1
  have hp36 : PoolAt T.C H6 a l d n dps := (hp3.news (s4.trans s5)).but2 ((hp4.news s5).lst.choose_spec.1) (hp4.news s5).dic (ne_of_none hl3 hl4) (ne_of_none d3 hd4) f6
  have hp56 : PoolAt T.C H6 c l5 d5 2 [] := hp5.but2 ((hp4.news s5).lst.choose_spec.1) (hp4.news s5).dic l45.symm d45.symm f6
  refine ⟨_, rfl, _, rfl, _, rfl, a, l, d, c, l5, d5, n, 2, dps, [], _, rfl, hp36, (dps_rows n).ok, by decide, rfl, hp56, by decide, by decide, ok_nil _, by decide, hl5n, hd5n, fun i ei hi H7 ks' hr' ci' hp7 f7 => ?_, fun z => absurd (good_of (i := 1) (by decide)) z⟩
  have ei1 : 1 = i := by injection ei with ei; omega
  subst ei1
  obtain rfl := hr.uniq hr'
  have hp67 := hp6.but2 (hp56.lst.choose_spec.1) hp56.dic l45 d45 f7
  have kl : ks.length ≤ 2 := reach_len (dps_rows n).ok.wf hr (by decide)
  have r1 := carry_rows (by omega) (by decide) (dps_rows n) (rows_nil 1 1 true) hr (by decide)
  have r2 := carry_rows (by omega) (by decide) (dps_rows n) (rows_nil 2 1 true) hr (by decide)
  have j1 := ci.look ((hr.mem 1).mpr .self)
  have j2 := ci'.look ((hr.mem 1).mpr .self)
  have c1 := ci.len
  have c2 := ci'.len
  have v1 := fun v (h : Gd 1 v) => dps_val (n := n) (m := 1) (by omega) (by decide) (by omega) hr h
  have v2 := fun v (h : Gd 2 v) => dps_val (n := n) (m := 2) (by omega) (by decide) (by omega) hr h
  have s7 : Same H H7 := fun x o e => f7 _ _ (f6 _ _ (s5 _ _ (s4 _ _ (s3 _ _ e))) (ne_of_none (s3 _ _ e) hl4) (ne_of_none (s3 _ _ e) hd4)) (ne_of_none (s4 _ _ (s3 _ _ e)) hl5) (ne_of_none (s4 _ _ (s3 _ _ e)) hd5)
  generalize (mCarry 1 dps ks []).1 = Q1 at *
  generalize look (mCarry 1 dps ks []).2 1 = J1 at *
  generalize (mCarry 2 dps ks []).1 = Q2 at *
  generalize look (mCarry 2 dps ks []).2 1 = J2 at *
  obtain ⟨x1, o1⟩ := id hp67.ob
  obtain ⟨x2, o2⟩ := id hp7.ob
  simp only [List.length_nil, Nat.zero_add] at c1 c2
  have g10 : Gd 1 0 := ⟨by decide, by decide⟩
  have g11 : Gd 1 1 := ⟨by decide, by decide⟩
  have g21 : Gd 2 1 := ⟨by decide, by decide⟩
  have g22 : Gd 2 2 := ⟨by decide, by decide⟩
  have g23 : Gd 2 3 := ⟨by decide, by decide⟩
  have sz1 : (1 : Nat) ≤ sizeLine := by show 1 ≤ sizeLine; decide
  refine ⟨_, rfl, b, x1, _, rfl, o1, no_meth (by decide +kernel), _, rfl, sz1, fun q hq => ⟨b, l4, d4, q, 1, _, _, [0], rfl, hp67.news (same_new hq), r1.ok, by omega, by decide, j1, upd_same, gd_one g10, fun k g e => r1.gets k g e, fun H8 s8 => ?_⟩⟩
  rw [v1 0 g10, show ((0 : Int) + 0) % 2 ^ 1 = 0 by decide]
  have t8 := (same_new hq).trans s8
  refine ⟨rfl, _, rfl, iteN (by decide) ?_⟩
  refine ⟨_, rfl, b, x1, _, rfl, t8 _ _ o1, no_meth (by decide +kernel), _, rfl, sz1, fun q hq => ⟨b, l4, d4, q, 1, _, _, [1], rfl, (hp67.news t8).news (same_new hq), r1.ok, by omega, by decide, j1, upd_same, gd_one g11, fun k g e => r1.gets k g e, fun H9 s9 => ?_⟩⟩
  rw [v1 1 g11, show ((1 : Int) + 1) % 2 ^ 1 = 0 by decide]
  have t9 := t8.trans ((same_new hq).trans s9)
  refine ⟨rfl, _, rfl, iteN (by decide) ?_⟩
  refine ⟨_, rfl, c, x2, _, rfl, t9 _ _ o2, no_meth (by decide +kernel), _, rfl, sz1, fun q hq => ⟨c, l5, d5, q, 2, _, _, [1], rfl, (hp7.news t9).news (same_new hq), r2.ok, by omega, by decide, j2, upd_same, gd_one g21, fun k g e => r2.gets k g e, fun H10 s10 => ?_⟩⟩
  rw [v2 1 g21, show ((1 : Int) + 1) % 2 ^ 2 = 2 by decide]
  have t10 := t9.trans ((same_new hq).trans s10)
  refine ⟨rfl, _, rfl, iteP (by decide) ?_⟩
  refine ⟨_, rfl, c, x2, _, rfl, t10 _ _ o2, no_meth (by decide +kernel), _, rfl, sz1, fun q hq => ⟨c, l5, d5, q, 2, _, _, [3], rfl, (hp7.news t10).news (same_new hq), r2.ok, by omega, by decide, j2, upd_same, gd_one g23, fun k g e => r2.gets k g e, fun H11 s11 => ?_⟩⟩
  rw [v2 3 g23, show ((3 : Int) + 3) % 2 ^ 2 = 2 by decide]
  have t11 := t10.trans ((same_new hq).trans s11)
  refine ⟨rfl, _, rfl, iteP (by decide) ?_⟩
  refine ⟨_, rfl, c, x2, _, rfl, t11 _ _ o2, no_meth (by decide +kernel), _, rfl, sz1, fun q hq => ⟨c, l5, d5, q, 2, _, _, [2], rfl, (hp7.news t11).news (same_new hq), r2.ok, by omega, by decide, j2, upd_same, gd_one g22, fun k g e => r2.gets k g e, fun H12 s12 => ?_⟩⟩
  rw [v2 2 g22, show ((2 : Int) + 2) % 2 ^ 2 = 0 by decide]
  have t12 := t11.trans ((same_new hq).trans s12)
  exact ⟨rfl, k H12 (s7.trans t12)⟩
def sp_law_refused (T : Txt K mg) : Sp := fun vs H Q _ => ∃ (a l d a2 l2 d2 : Addr) (n w2 : Nat) (ps : List Part) (x : V), vs = [.ref a, x, .ref a2] ∧ PoolAt T.C H a l d n ps ∧ Ok n ps ∧ ps.length < 60 ∧ plainV x = true ∧ ¬ goodP ps.length x = true ∧ PoolAt T.C H a2 l2 d2 w2 [] ∧ 1 ≤ w2 ∧ w2 ≤ 12 ∧ l ≠ l2 ∧ d ≠ d2 ∧ Q (.bl true) H
theorem sp_law_refused_len {T : Txt K mg} {vs H Q E} (h : sp_law_refused T vs H Q E) : vs.length = 3 := by obtain ⟨_, _, _, _, _, _, _, _, _, _, rfl, _⟩ := h; rfl
theorem ok_law_refused (T : Txt K mg) : FnOk P w K mg base CX0 7 T.f_law_refused T.fd_law_refused ["_law_pool", "_law_number", "_law_other"] (sp_law_refused T) := by
  have G_p_len := ok_p_len (P := P) (w := w) (base := base) T; have G_carried := ok_carried (P := P) (w := w) (base := base) T
  refine T.F_law_refused.ok sc_law_refused (fun vs H Q E h => sp_law_refused_len h) (fun cdv A outer s H vs Q E hr h => ?_)
  obtain ⟨a, l, d, a2, l2, d2, n, w2, ps, x, rfl, hp, ok, h60, hx, hg, hp2, w1, w12, ll, dd, k⟩ := h
  refine ⟨_, (pss_cons (ps_set (i := 3) sc_law_refused.nd rfl (Or.inl rfl) pe_int)
       (pss_cons (ps_try_only (Wout := fun _ _ _ _ => False) rfl rfl ⟨rfl, by decide, Or.inl T.g_BadPart⟩ takes0
       (fun W pn xe tk _ => (pss_one (ps_expr (pe_callS G_carried hr rfl T.g_carried T.F_carried.kp T.b_carried (fun σ => passAt tk σ) (pa_cons (pv 0) (pa_cons (pv 1) (pa_cons (pv 2) pa_nil)))))))
       (fun a oe cls d pn _ _ => (pss_one (ps_set (i := 3) sc_law_refused.nd rfl (Or.inl rfl) pe_int))))
       (pss_one (ps_ret (pe_and (pe_cmpR op_eq (pv 3) pe_int (nomark _)) (pe_one (pe_cmpR op_eq (pe_callB (call_lenOwn T.m_p_len.1 (beq_iff_eq.mp T.m_p_len.2) G_p_len T.b_p_len (hr.mono (by decide))) (by rfl) T.n_len (by decide +kernel) (pa_cons (pv 2) pa_nil)) pe_int (nomark _)))))))), ?_⟩
  obtain ⟨dx2, ho2⟩ := id hp2.ob
  refine ⟨_, rfl, _, rfl, _, rfl, a, l, d, a2, l2, d2, n, w2, ps, [], x, rfl, hp, ok, h60, hx, hp2, w1, w12, ok_nil _, by decide, ll, dd, fun i e hi => ?_, fun _ => ?_⟩
  · subst e; exact absurd (good_of hi) hg
  refine ⟨true, T.te_BadPart, fun _ e he => ?_, fun z => by cases z⟩
  refine ⟨_, rfl, rfl, _, rfl, iteP (by decide) ?_⟩
  refine ⟨_, rfl, a2, dx2, _, 0, rfl, ho2, ⟨a2, l2, d2, w2, [], rfl, hp2, rfl, rfl⟩, by decide, rfl, ?_⟩
  exact k
end
end My

/-! LM -/
namespace My
open PySem L2
local macro_rules | `(tactic| walk_at "side") => `(tactic| first | with_reducible rfl | assumption | rfl | decide | omega | exact cpow1 (by omega) (by omega) | exact cdiv (by omega) (by omega) | exact two_pos _ | exact SqL.of (by assumption) | exact SqT.of (by assumption) | exact TyX.base (TyOf.int _) | exact TyX.base (TyOf.bl _) | exact TyX.base TyOf.non | exact scal_opt _ _ | exact k_ii | exact k_bi | exact k_ni | exact k_ib | exact k_bb | exact TyX.base (TyOf.lst (by assumption)) | exact k_ll | exact k_lt)
local macro_rules | `(tactic| walk_at "p") => `(tactic| repeat (first | refine And.intro (by walk_at "side") ?_ | apply Exists.intro | refine iteN (by assumption) ?_ | refine iteP (by assumption) ?_ | refine iteN (by decide) ?_ | refine iteP (by decide) ?_))

section
variable {P : Program} {w : World} {K : PySem.W.Frag} {mg : Str → Option Value} {base : Heap}
def sp_law_twice (T : Txt K mg) : Sp := fun vs H Q _ => ∃ (a l d L q : Addr) (n u m : Nat) (ps : List Part) (i : Nat) (ws : List Int), vs = [.ref a, .ref L, .int i, .ref q, .int (evAt n (envOf ws) ps i), .int m] ∧ PoolAt T.C H a l d n ps ∧ LAt H L ps ∧ L ≠ l ∧ Rows n u true ps ∧ ps.length ≤ 16 ∧ 1 ≤ n ∧ n ≤ 12 ∧ i < ps.length ∧
  H q = some (.lst (intL ws)) ∧ ws.length < 100 ∧ u ≤ ws.length ∧ (∀ x ∈ ws, 0 ≤ x ∧ x < 2 ^ n) ∧ 1 ≤ m ∧ m ≤ n ∧ ∀ H', Same H H' → Q (.bl true) H'
theorem sp_law_twice_len {T : Txt K mg} {vs H Q E} (h : sp_law_twice T vs H Q E) : vs.length = 6 := by obtain ⟨_, _, _, _, _, _, _, _, _, _, _, rfl, _⟩ := h; rfl
theorem ok_law_twice (T : Txt K mg) : FnOk P w K mg base CX0 8 T.f_law_twice T.fd_law_twice ["_law_pool", "_law_parts", "_law_number", "_law_words", "_law_due", "_law_width"] (sp_law_twice T) := by
  have G_p_init := ok_p_init (P := P) (w := w) (base := base) T; have G_law_carried_well := ok_law_carried_well (P := P) (w := w) (base := base) T; have G_law_low_words := ok_law_low_words (P := P) (w := w) (base := base) T; have G_law_moved := ok_law_moved (P := P) (w := w) (base := base) T; have G_carried := ok_carried (P := P) (w := w) (base := base) T
  refine T.F_law_twice.ok sc_law_twice (fun vs H Q E h => sp_law_twice_len h) (fun cdv A outer s H vs Q E hr h => ?_)
  obtain ⟨a, l, d, L, q, n, u, m, ps, i, ws, rfl, hp, hL, Ll, ro, h16, n1, n12, hi, hq, h100, hu, hws, m1, mn, k⟩ := h
  refine ⟨_, (pss_cons (ps_set (i := 6) sc_law_twice.nd rfl (Or.inl rfl) (pe_make T.M_Pool G_p_init (hr.mono (by decide)) rfl T.g_Pool T.b_p_init .nil pass0 (pa_cons (pv 5) pa_nil)))
       (pss_cons (ps_set (i := 7) sc_law_twice.nd rfl (Or.inl rfl) (pe_lst pa_nil))
       (pss_cons (ps_if (pt_not (pt_val (pe_call G_law_carried_well hr rfl T.g_law_carried_well T.F_law_carried_well.kp T.b_law_carried_well .nil pass0 (pa_cons (pv 0) (pa_cons (pv 1) (pa_cons (pv 2) (pa_cons (pv 6) (pa_cons (pv 7) (pa_cons (pv 5) pa_nil)))))))))
        (pss_one (ps_ret pe_bl))
        pss_nil)
       (pss_cons (ps_set (i := 8) sc_law_twice.nd rfl (Or.inl rfl) (pe_call G_law_moved (hr.mono (by decide)) rfl T.g_law_moved T.F_law_moved.kp T.b_law_moved .nil pass0 (pa_cons (pv 1) (pa_cons (pv 2) (pa_cons (pv 5) (pa_cons (pe_lst pa_nil) pa_nil))))))
       (pss_cons (ps_for PassesOwn.never rfl (pi_range2 (by rfl) T.n_range (pa_cons pe_int (pa_cons (pe_op op_add (pv 5) pe_int) pa_nil))) (pg_name (i := 9) sc_law_twice.nd rfl (Or.inl rfl))
        (pss_cons (ps_set (i := 10) sc_law_twice.nd rfl (Or.inl rfl) (pe_make T.M_Pool G_p_init (hr.mono (by decide)) rfl T.g_Pool T.b_p_init .nil pass0 (pa_cons (pv 9) pa_nil)))
       (pss_cons (ps_if (pt_not (pt_val (pe_call G_law_carried_well hr rfl T.g_law_carried_well T.F_law_carried_well.kp T.b_law_carried_well .nil pass0 (pa_cons (pv 6) (pa_cons (pv 7) (pa_cons (pv 8) (pa_cons (pv 10) (pa_cons (pe_lst pa_nil) (pa_cons (pv 9) pa_nil)))))))))
        (pss_one (ps_ret pe_bl))
        pss_nil)
       (pss_cons (ps_set (i := 11) sc_law_twice.nd rfl (Or.inl rfl) (pe_call G_carried (hr.mono (by decide)) rfl T.g_carried T.F_carried.kp T.b_carried .nil passL (pa_cons (pv 6) (pa_cons (pv 8) (pa_cons (pv 10) pa_nil)))))
       (pss_one (ps_if (pt_not (pt_val (pe_call G_law_low_words hr rfl T.g_law_low_words T.F_law_low_words.kp T.b_law_low_words .nil pass0 (pa_cons (pv 10) (pa_cons (pv 11) (pa_cons (pv 3) (pa_cons (pv 4) (pa_cons (pv 9) pa_nil))))))))
        (pss_one (ps_ret pe_bl))
        pss_nil))))))
       (pss_one (ps_ret pe_bl))))))), ?_⟩
  have sz : sizeLine = 16777216 := sizeLine_eq
  obtain ⟨tsl, hl, _⟩ := id hp.lst
  obtain ⟨tsL, hLL, _⟩ := id hL
  have hd := hp.dic
  -- middle = Pool(width); made = []
  refine ⟨_, rfl, fun b dxb hb hdxb hneb => ⟨b, dxb, m, rfl, upd_same, m1, by omega, fun H1 l1 d1 hl1 hd1 _ hp1 f1 => ⟨rfl, ?_⟩⟩⟩
  obtain ⟨s1, hl1, hd1⟩ := mkFacts hb hdxb hl1 hd1 f1
  refine ⟨Nat.zero_le _, fun M hM => ?_⟩
  have s2 := s1.trans (same_new (o := .lst []) hM)
  have hM0 := s1.free hM
  have hLM : LAt (upd H1 M (.lst [])) M [] := ⟨[], upd_same, rfl, fun i q e => by simp at e⟩
  have Ml1 : M ≠ l1 := fun e => by obtain ⟨ts, h, _⟩ := hp1.lst; rw [e, h] at hM; cases hM
  have hp12 := hp1.news (same_new (o := .lst []) hM)
  -- carried well into the middle
  refine ⟨_, rfl, _, rfl, _, rfl, _, rfl, _, rfl, _, rfl, a, l, d, L, b, l1, d1, M, n, m, ps, [], i, rfl, hp.news s2, hL.news s2, ro.ok, by omega, hi, hp12, hLM, m1, by omega, ok_nil _, by decide,
    ⟨ne_of_none hl hl1, ne_of_none hd hd1, ne_of_none hLL hM0, Ml1, (ne_of_none hl hM0).symm, ne_of_none hLL hl1⟩, fun H3 ks hr ci hp3 hL3 f3 => ?_⟩
  have s3 : Same H H3 := fun x o e => f3 _ _ (s2 _ _ e) (ne_of_none e hM0) (ne_of_none e hl1) (ne_of_none e hd1)
  refine ⟨_, rfl, iteN (by decide) ?_⟩
  have rom := carry_rows n1 m1 ro (rows_nil m u true) hr hi
  have kl := reach_len ro.ok.wf hr hi
  have jm := ci.look ((hr.mem i).mpr .self)
  have lm := ci.len
  have vm := carry_words n1 m1 mn (env_of hws) ro (rows_nil m u true) hr hi
  simp only [List.length_nil, Nat.zero_add] at lm
  -- first = moved(parts, number, width, [])
  refine ⟨_, rfl, _, rfl, _, rfl, Nat.zero_le _, fun N hN => ?_⟩
  have s4 := s3.trans (same_new (o := .lst []) hN)
  have hLN : LAt (upd H3 N (.lst [])) N [] := ⟨[], upd_same, rfl, fun i q e => by simp at e⟩
  refine ⟨L, N, n, m, ps, [], i, rfl, hL.news s4, ro.ok, by omega, hi, hLN, m1, by omega, ok_nil _, by decide, (ne_of_none (s3 _ _ hLL) hN), fun H5 ks' hr' _ _ f5 => ?_⟩
  obtain rfl := hr.uniq hr'
  have s35 : Same H3 H5 := fun x o e => f5 _ _ (same_new hN _ _ e) (ne_of_none e hN)
  have hp5 := hp3.news s35
  have hL5 := hL3.news s35
  have s5 := s3.trans s35
  have hqs := s5 _ _ hq
  have em' : EnvG m (fun g => envOf ws g % 2 ^ m) := fun g => gd_mod m _
  generalize (mCarry m ps ks []).1 = Qm at *
  generalize look (mCarry m ps ks []).2 i = Jm at *
  obtain ⟨tsm, hl15, _⟩ := id hp5.lst
  have hd15 := hp5.dic
  obtain ⟨tsM, hM5, _⟩ := id hL5
  refine ⟨_, rfl, _, _, rfl, rfl, 1, _, rfl, ⟨by decide, by decide, by omega, by omega⟩, ?_⟩
  refine for_range (lo := 1) (n := (((m : Nat) : Int) + 1 - 1).toNat) (fun t σ' H6 => ∃ v9 v10 v11 : Option V, σ' = [some (.ref a), some (.ref L), some (.int (i : Nat)), some (.ref q), some (.int (evAt n (envOf ws) ps i)), some (.int (m : Nat)), some (.ref b), some (.ref M), some (.int (Jm : Nat)), v9, v10, v11] ∧ Same H5 H6) ⟨none, none, none, rfl, Same.refl _⟩ ?_ ?_
  · rintro t σ' H6 ht ⟨v9, v10, v11, rfl, s6⟩
    have ht' : t < m := by omega
    have e1 : (1 : Int) + (t : Nat) = ((t + 1 : Nat) : Int) := by omega
    rw [e1]
    -- other = Pool(low)
    refine ⟨_, rfl, fun c dxc hc hdxc hnec => ⟨c, dxc, t + 1, rfl, upd_same, by omega, by omega, fun H7 l2 d2 hl2 hd2 _ hp7 f7 => ⟨rfl, ?_⟩⟩⟩
    obtain ⟨s7, hl2, hd2⟩ := mkFacts hc hdxc hl2 hd2 f7
    have s57 := s6.trans s7
    refine ⟨_, rfl, _, rfl, _, rfl, _, rfl, Nat.zero_le _, fun N2 hN2 => ?_⟩
    have s8 := s57.trans (same_new (o := .lst []) hN2)
    have hN20 := s57.free hN2
    have hL2 : LAt (upd H7 N2 (.lst [])) N2 [] := ⟨[], upd_same, rfl, fun i q e => by simp at e⟩
    have N2l2 : N2 ≠ l2 := fun e => by obtain ⟨ts, h, _⟩ := hp7.lst; rw [e, h] at hN2; cases hN2
    refine ⟨_, rfl, b, l1, d1, M, c, l2, d2, N2, m, t + 1, Qm, [], Jm, rfl, hp5.news s8, hL5.news s8, rom.ok, by omega, jm, hp7.news (same_new hN2), hL2, by omega, by omega, ok_nil _, by decide,
      ⟨ne_of_none (s6 _ _ hl15) hl2, ne_of_none (s6 _ _ hd15) hd2, ne_of_none hM5 hN20, N2l2, (ne_of_none hl15 hN20).symm, ne_of_none (s6 _ _ hM5) hl2⟩, fun H8 ks2 hr2 ci2 hp8 hL8 f8 => ?_⟩
    have s58 : Same H5 H8 := fun x o e => f8 _ _ (s8 _ _ e) (ne_of_none e hN20) (ne_of_none (s6 _ _ e) hl2) (ne_of_none (s6 _ _ e) hd2)
    refine ⟨_, rfl, iteN (by decide) ?_⟩
    have ro2 := carry_rows m1 (by omega) rom (rows_nil (t + 1) u true) hr2 jm
    have kl2 := reach_len rom.ok.wf hr2 jm
    have lm2 := ci2.len
    simp only [List.length_nil, Nat.zero_add] at lm2
    -- part = carried(middle, first, other)
    refine ⟨_, rfl, _, rfl, _, rfl, b, l1, d1, c, l2, d2, m, t + 1, Qm, _, _, rfl, hp5.news s58, rom.ok, by omega, rfl, hp8, by omega, by omega, ro2.ok, by omega, ne_of_none (s6 _ _ hl15) hl2, ne_of_none (s6 _ _ hd15) hd2, fun i' ei _ H9 ks3 hr3 ci3 hp9 f9 => ?_, fun z => absurd (good_of jm) z⟩
    have ei' : Jm = i' := by injection ei with ei; omega
    subst ei'
    obtain rfl := hr2.uniq hr3
    have s59 : Same H5 H9 := fun x o e => f9 _ _ (s58 _ _ e) (ne_of_none (s6 _ _ e) hl2) (ne_of_none (s6 _ _ e) hd2)
    have ro3 := carry_rows m1 (by omega) rom ro2 hr2 jm
    have v3 := carry_words m1 (by omega) (by omega) em' rom ro2 hr2 jm
    have lm3 := ci3.len
    have j3 := ci3.look ((hr2.mem Jm).mpr .self)
    have ee : (fun g => envOf ws g % 2 ^ m % 2 ^ (t + 1)) = fun g => envOf ws g % 2 ^ (t + 1) := funext fun g => mod_mod' (by omega) _
    rw [vm, mod_mod' (by omega), ee] at v3
    refine ⟨_, rfl, _, rfl, _, rfl, _, rfl, _, rfl, c, l2, d2, q, t + 1, u, true, _, _, ws, _, rfl, hp9, ro3, by omega, by omega, j3, s59 _ _ hqs, h100, hu, v3, fun H10 s10 => ?_⟩
    exact ⟨_, rfl, iteN (by decide) ⟨_, _, _, rfl, s59.trans s10⟩⟩
  rintro σ' H6 ⟨v9, v10, v11, rfl, s6⟩
  exact k H6 (s5.trans s6)
end
end My

/-! LN -/
namespace My
open PySem L2
local macro_rules | `(tactic| walk_at "side") => `(tactic| first | with_reducible rfl | assumption | rfl | decide | omega | exact cpow1 (by omega) (by omega) | exact cdiv (by omega) (by omega) | exact two_pos _ | exact SqL.of (by assumption) | exact SqT.of (by assumption) | exact TyX.base (TyOf.int _) | exact TyX.base (TyOf.bl _) | exact TyX.base TyOf.non | exact scal_opt _ _ | exact k_ii | exact k_bi | exact k_ni | exact k_ib | exact k_bb | exact TyX.base (TyOf.lst (by assumption)) | exact k_ll | exact k_lt)
local macro_rules | `(tactic| walk_at "p") => `(tactic| repeat (first | refine And.intro (by walk_at "side") ?_ | apply Exists.intro | refine iteN (by assumption) ?_ | refine iteP (by assumption) ?_ | refine iteN (by decide) ?_ | refine iteP (by decide) ?_))

section
variable {P : Program} {w : World} {K : PySem.W.Frag} {mg : Str → Option Value} {base : Heap}
def sp_law_pair_same (T : Txt K mg) : Sp := fun vs H Q _ => ∃ (a l d : Addr) (n u m : Nat) (ps : List Part) (i j : Nat), vs = [.ref a, .int i, .int j, .int u, .int m] ∧ PoolAt T.C H a l d n ps ∧ Rows n u true ps ∧ ps.length ≤ 16 ∧ 1 ≤ n ∧ n ≤ 12 ∧ i < ps.length ∧ j < ps.length ∧ u ≤ 3 ∧ m ≤ n ∧
  (∀ env, EnvG n env → evAt n env ps i = evAt n env ps j) ∧ ∀ H', Same H H' → Q (.bl true) H'
theorem sp_law_pair_same_len {T : Txt K mg} {vs H Q E} (h : sp_law_pair_same T vs H Q E) : vs.length = 5 := by obtain ⟨_, _, _, _, _, _, _, _, _, rfl, _⟩ := h; rfl
theorem ok_law_pair_same (T : Txt K mg) : FnOk P w K mg base CX0 7 T.f_law_pair_same T.fd_law_pair_same ["_law_pool", "_law_one", "_law_other", "_law_unknowns", "_law_width"] (sp_law_pair_same T) := by
  have G_p_value := ok_p_value (P := P) (w := w) (base := base) T; have G_p_init := ok_p_init (P := P) (w := w) (base := base) T; have G_law_all_rows := ok_law_all_rows (P := P) (w := w) (base := base) T; have G_carried := ok_carried (P := P) (w := w) (base := base) T
  refine T.F_law_pair_same.ok sc_law_pair_same (fun vs H Q E h => sp_law_pair_same_len h) (fun cdv A outer s H vs Q E hr h => ?_)
  obtain ⟨a, l, d, n, u, m, ps, i, j, rfl, hp, ro, h16, n1, n12, hi, hj, u3, mn, hev, k⟩ := h
  refine ⟨_, (pss_cons (ps_for PassesOwn.never rfl (pi_range2 (by rfl) T.n_range (pa_cons pe_int (pa_cons (pe_op op_add (pv 4) pe_int) pa_nil))) (pg_name (i := 5) sc_law_pair_same.nd rfl (Or.inr rfl))
        (pss_cons (ps_set (i := 6) sc_law_pair_same.nd rfl (Or.inl rfl) (pe_make T.M_Pool G_p_init (hr.mono (by decide)) rfl T.g_Pool T.b_p_init .nil pass0 (pa_cons (pv 5) pa_nil)))
       (pss_cons (ps_set (i := 7) sc_law_pair_same.nd rfl (Or.inl rfl) (pe_call G_carried hr rfl T.g_carried T.F_carried.kp T.b_carried .nil passL (pa_cons (pv 0) (pa_cons (pv 1) (pa_cons (pv 6) pa_nil)))))
       (pss_cons (ps_set (i := 8) sc_law_pair_same.nd rfl (Or.inl rfl) (pe_call G_carried hr rfl T.g_carried T.F_carried.kp T.b_carried .nil passL (pa_cons (pv 0) (pa_cons (pv 2) (pa_cons (pv 6) pa_nil)))))
       (pss_cons (ps_setLc (i := 9) (own := [("_law_i", 11)]) (g := gName 11) (tt := tYes) rfl sc_law_pair_same.nd rfl rfl (sw_true rfl rfl rfl (by decide +kernel)) (pi_range1 (by rfl) T.n_range (pa_cons (pv 3) pa_nil)) (blkOk_by (N := ["_law_pool", "_law_one", "_law_other", "_law_unknowns", "_law_width", "_law_low_here", "_law_left", "_law_right", "_law_wrong", "_law_limits", "_law_words", "_law_i"]) (sc := defScope s_law_pair_same) (by decide +kernel)) (fun _ _ _ _ _ => by exact pg_name (i := 11) sc_law_pair_same.nd rfl (Or.inl rfl)) (fun _ _ _ _ _ => by exact pts_nil) (fun _ _ _ _ _ => by exact (pe_callB (call_min2 rfl) (by rfl) T.n_min (by decide +kernel) (pa_cons (pv 5) (pa_cons pe_int pa_nil)))))
       (pss_one (ps_for PassesOwn.never rfl (pi_list (pe_call G_law_all_rows (hr.mono (by decide)) rfl T.g_law_all_rows T.F_law_all_rows.kp T.b_law_all_rows .nil pass0 (pa_cons (pv 9) pa_nil))) (pg_name (i := 10) sc_law_pair_same.nd rfl (Or.inl rfl))
        (pss_one (ps_if (pt_cmpR op_ne (pe_meth (pv 6) T.cl T.m_p_value G_p_value hr T.b_p_value .nil pass0 (pa_cons (pv 7) (pa_cons (pv 10) pa_nil))) (pe_meth (pv 6) T.cl T.m_p_value G_p_value hr T.b_p_value .nil pass0 (pa_cons (pv 8) (pa_cons (pv 10) pa_nil))) (nomark _))
        (pss_one (ps_ret pe_bl))
        pss_nil)))))))))
       (pss_one (ps_ret pe_bl))), ?_⟩
  have sz : sizeLine = 16777216 := sizeLine_eq
  obtain ⟨tsl, hl, _⟩ := id hp.lst
  have hd := hp.dic
  refine ⟨_, rfl, _, _, rfl, rfl, 1, _, rfl, ⟨by decide, by decide, by omega, by omega⟩, ?_⟩
  refine for_range (lo := 1) (n := (((m : Nat) : Int) + 1 - 1).toNat) (fun t σ' H1 => ∃ v5 v6 v7 v8 v9 v10 v11 : Option V, σ' = [some (.ref a), some (.int (i : Nat)), some (.int (j : Nat)), some (.int (u : Nat)), some (.int (m : Nat)), v5, v6, v7, v8, v9, v10, v11] ∧ Same H H1) ⟨none, none, none, none, none, none, none, rfl, Same.refl _⟩ ?_ ?_
  · rintro t σ' H1 ht ⟨v5, v6, v7, v8, v9, v10, v11, rfl, s1⟩
    have ht' : t < m := by omega
    have e1 : (1 : Int) + (t : Nat) = ((t + 1 : Nat) : Int) := by omega
    rw [e1]
    refine ⟨_, rfl, fun c dxc hc hdxc hnec => ⟨c, dxc, t + 1, rfl, upd_same, by omega, by omega, fun H2 l2 d2 hl2 hd2 _ hp2 f2 => ⟨rfl, ?_⟩⟩⟩
    obtain ⟨s2, hl2, hd2⟩ := mkFacts hc hdxc hl2 hd2 f2
    have s12 := s1.trans s2
    refine ⟨_, rfl, _, rfl, _, rfl, a, l, d, c, l2, d2, n, t + 1, ps, [], _, rfl, hp.news s12, ro.ok, by omega, rfl, hp2, by omega, by omega, ok_nil _, by decide, ne_of_none (s1 _ _ hl) hl2, ne_of_none (s1 _ _ hd) hd2, fun i' ei _ H3 ks hr1 ci hp3 f3 => ?_, fun z => absurd (good_of hi) z⟩
    have ei' : i = i' := by injection ei with ei; omega
    subst ei'
    have s3 : Same H H3 := fun x o e => f3 _ _ (s12 _ _ e) (ne_of_none (s1 _ _ e) hl2) (ne_of_none (s1 _ _ e) hd2)
    have ro1 := carry_rows n1 (by omega) ro (rows_nil (t + 1) u true) hr1 hi
    have kl1 := reach_len ro.ok.wf hr1 hi
    have lm1 := ci.len
    simp only [List.length_nil, Nat.zero_add] at lm1
    have j1 := ci.look ((hr1.mem i).mpr .self)
    have v1 := fun env (he : EnvG n env) => carry_words n1 (by omega) (by omega : t + 1 ≤ n) he ro (rows_nil (t + 1) u true) hr1 hi
    generalize (mCarry (t + 1) ps ks []).1 = Q1 at *
    generalize look (mCarry (t + 1) ps ks []).2 i = J1 at *
    refine ⟨_, rfl, _, rfl, _, rfl, a, l, d, c, l2, d2, n, t + 1, ps, Q1, _, rfl, hp.news s3, ro.ok, by omega, rfl, hp3, by omega, by omega, ro1.ok, by omega, ne_of_none (s1 _ _ hl) hl2, ne_of_none (s1 _ _ hd) hd2, fun i' ei _ H4 ks' hr2 ci2 hp4 f4 => ?_, fun z => absurd (good_of hj) z⟩
    have ei' : j = i' := by injection ei with ei; omega
    subst ei'
    have s4 : Same H H4 := fun x o e => f4 _ _ (s3 _ _ e) (ne_of_none (s1 _ _ e) hl2) (ne_of_none (s1 _ _ e) hd2)
    have ro2 := carry_rows n1 (by omega) ro ro1 hr2 hj
    have kl2 := reach_len ro.ok.wf hr2 hj
    have lm2 := ci2.len
    have j2 := ci2.look ((hr2.mem j).mpr .self)
    have pre2 := ci2.pre
    have v2 := fun env (he : EnvG n env) => carry_words n1 (by omega) (by omega : t + 1 ≤ n) he ro ro1 hr2 hj
    generalize (mCarry (t + 1) ps ks' Q1).1 = Q2 at *
    generalize look (mCarry (t + 1) ps ks' Q1).2 j = J2 at *
    have same : ∀ env, EnvG (t + 1) env → evAt (t + 1) env Q2 J1 = evAt (t + 1) env Q2 J2 := fun env he => by
      have hn : EnvG n env := fun g => (he g).up (by omega)
      have a1 := v1 env hn
      have a2 := v2 env hn
      rw [env_same he] at a1 a2
      rw [evAt_pre pre2 j1, a1, a2, hev env hn]
    have J1l : J1 < Q2.length := Nat.lt_of_lt_of_le j1 pre2.length_le
    -- limits
    obtain ⟨cc, hcc, cc2, cct⟩ : ∃ cc : Nat, (if (2 : Int) < ((t + 1 : Nat) : Int) then (2 : Int) else ((t + 1 : Nat) : Int)) = (cc : Nat) ∧ cc ≤ 2 ∧ cc ≤ t + 1 := by
      by_cases h2 : (2 : Int) < ((t + 1 : Nat) : Int)
      · exact ⟨2, by rw [if_pos h2]; rfl, by omega, by omega⟩
      · exact ⟨t + 1, by rw [if_neg h2], by omega, by omega⟩
    refine ⟨_, rfl, (u : Nat), rfl, by omega, by omega, fun G hG => ?_⟩
    refine lc_range (lo := 0) (n := ((u : Nat) : Int).toNat) (fun r H5 => Same H4 H5 ∧ H5 G = some (.lst (natL (List.replicate r cc)))) ⟨same_new hG, upd_same⟩ ?_ ?_
    · rintro r H5 hr' ⟨s5, h5⟩
      rw [Int.toNat_natCast] at hr'
      refine ⟨rfl, yesT (iteP rfl ⟨_, rfl, _, _, rfl, _, h5, by rw [natL_len, List.length_replicate]; omega, fun b o e => ?_, ?_⟩)⟩
      · rw [upd_ne (ne_of_none e hG)]; exact s5 _ _ e
      · rw [upd_same, List.replicate_succ', natL_snoc, hcc]
    rintro H5 ⟨s5, h5⟩
    rw [Int.toNat_natCast] at h5
    refine ⟨_, rfl, G, List.replicate u cc, cc, rfl, h5, fun x hx => (by rw [List.eq_of_mem_replicate hx]; exact Nat.le_refl _), cc2, by rw [List.length_replicate]; exact u3, fun H6 R s6 hR hRL => ?_⟩
    obtain ⟨as, hA, hAl, hAs⟩ := hRL
    have s46 := s5.trans s6
    refine ⟨R, rfl, ⟨_, SqL.of hA⟩, ?_⟩
    refine for_list (K := K) (a := R) (xs := as.map V.ref) (fun r σ' H7 => ∃ v9 v10 v11 : Option V, σ' = [some (.ref a), some (.int (i : Nat)), some (.int (j : Nat)), some (.int (u : Nat)), some (.int (m : Nat)), some (.int (t + 1 : Nat)), some (.ref c), some (.int (J1 : Nat)), some (.int (J2 : Nat)), v9, v10, v11] ∧ Same H6 H7) ⟨_, _, _, rfl, Same.refl _⟩ ?_ ?_ ?_
    · rintro r σ' H7 _ ⟨_, _, _, _, s7⟩
      exact SqL.of (s7 _ _ hA)
    · rintro r x σ' H7 hx ⟨v9, v10, v11, rfl, s7⟩
      rw [List.getElem?_map] at hx
      obtain ⟨e, he, rfl⟩ := Option.map_eq_some_iff.mp hx
      obtain ⟨ws, hW, hWl, hWs⟩ := hAs e (List.mem_of_getElem? he)
      rw [List.length_replicate] at hWl
      have hp7 := (hp4.news s46).news s7
      obtain ⟨x7, o7⟩ := id hp7.ob
      have gd : ∀ x ∈ ws, 0 ≤ x ∧ x < 2 ^ (t + 1) := fun x hx => Gd.up cct (hWs x hx)
      refine ⟨_, rfl, c, x7, _, rfl, o7, no_meth (by decide +kernel), _, rfl, _, rfl, c, l2, d2, e, t + 1, Q2, J1, ws, rfl, hp7, ro2.ok, by omega, by omega, J1l, s7 _ _ hW, gd, fun k g q => (by have := ro2.gets k g q; omega), fun H8 s8 => ?_⟩
      refine ⟨_, rfl, c, x7, _, rfl, s8 _ _ o7, no_meth (by decide +kernel), _, rfl, _, rfl, c, l2, d2, e, t + 1, Q2, J2, ws, rfl, hp7.news s8, ro2.ok, by omega, by omega, j2, s8 _ _ (s7 _ _ hW), gd, fun k g q => (by have := ro2.gets k g q; omega), fun H9 s9 => ?_⟩
      rw [same (envOf ws) (env_of gd)]
      exact ⟨rfl, _, rfl, iteN (by simp) ⟨_, _, _, rfl, s7.trans (s8.trans s9)⟩⟩
    rintro σ' H7 ⟨v9, v10, v11, rfl, s7⟩
    exact ⟨_, _, _, _, _, _, _, rfl, s4.trans (s46.trans s7)⟩
  rintro σ' H1 ⟨v5, v6, v7, v8, v9, v10, v11, rfl, s1⟩
  exact k H1 s1
end
end My

/-! R12 -/
namespace My
open PySem L2
/-! ### what is carried again makes nothing -/
theorem idxOf_pre {p : Part} : ∀ {st F : List Part}, st <+: F → p ∈ st → F.idxOf p = st.idxOf p
  | [], _, _, h => by simp at h
  | x :: st, F, hp, h => by
    obtain ⟨t, rfl⟩ := hp
    rw [List.cons_append, List.idxOf_cons, List.idxOf_cons]
    by_cases e : x = p
    · subst e; simp
    · have e' : (x == p) = false := by simpa using e
      rw [e', cond_false, cond_false, idxOf_pre (List.prefix_append _ _) ((List.mem_cons.mp h).resolve_left fun z => e z.symm)]
theorem idxOf_last {p : Part} : ∀ {st : List Part}, p ∉ st → (st ++ [p]).idxOf p = st.length
  | [], _ => by simp
  | x :: st, h => by
    have e : ¬ x = p := fun e => h (e ▸ List.mem_cons_self)
    have e' : (x == p) = false := by simpa using e
    rw [List.cons_append, List.idxOf_cons, e', cond_false, idxOf_last fun z => h (List.mem_cons_of_mem _ z)]; rfl
theorem mk_again {st F : List Part} {p : Part} (h : (mk st p).2 <+: F) : mk F p = ((mk st p).1, F) := by
  unfold mk at h ⊢
  by_cases hm : p ∈ st
  · rw [if_pos hm] at h ⊢
    rw [if_pos (h.subset hm), idxOf_pre h hm]
  · rw [if_neg hm] at h ⊢
    have hf : p ∈ F := h.subset (by simp)
    rw [if_pos hf, idxOf_pre h (by simp), idxOf_last hm]
theorem fin_again {st F : List Part} {o : Op} {a b : Nat} {s : Sh} (h : (fin st o a b s).2 <+: F) : fin F o a b s = ((fin st o a b s).1, F) := by
  cases s
  · rfl
  · rfl
  · exact mk_again h
  · exact mk_again h
  · exact mk_again h
theorem wordOf_pre {st F : List Part} (h : st <+: F) {a : Nat} (ha : a < st.length) : wordOf F a = wordOf st a := by
  obtain ⟨t, rfl⟩ := h
  unfold wordOf
  rw [List.getElem?_append_left ha]
theorem mApply_again {m : Nat} {st F : List Part} {o : Op} {a b : Nat} (ha : a < st.length) (hb : b < st.length) (h : (mApply m st o a b).2 <+: F) : mApply m F o a b = ((mApply m st o a b).1, F) := by
  have hp : st <+: F := (mApply_pre m st o a b).trans h
  unfold mApply at h ⊢
  rw [wordOf_pre hp ha, wordOf_pre hp hb]
  cases hx : wordOf st a with
  | none =>
    rw [hx] at h
    simp only at h ⊢
    split at h
    · rename_i c; rw [if_pos c, if_pos c]; exact fin_again h
    · rename_i c; rw [if_neg c, if_neg c]; exact fin_again h
  | some x =>
    cases hy : wordOf st b with
    | none =>
      rw [hx, hy] at h
      simp only at h ⊢
      split at h
      · rename_i c; rw [if_pos c, if_pos c]; exact fin_again h
      · rename_i c; rw [if_neg c, if_neg c]; exact fin_again h
    | some y =>
      rw [hx, hy] at h
      exact mk_again h
theorem cstep_pre (m : Nat) (ps : List Part) (st : List Part × List (Nat × Nat)) (k : Nat) : st.1 <+: (cstep m ps st k).1 := by
  show st.1 <+: (cstepR m ps st k).2
  unfold cstepR
  split
  · exact mApply_pre _ _ _ _ _
  · exact mk_pre _ _
  · exact mk_pre _ _
  · exact List.prefix_refl _
theorem fold_pre (m : Nat) (ps : List Part) : ∀ (ks : List Nat) (st : List Part × List (Nat × Nat)), st.1 <+: (ks.foldl (cstep m ps) st).1
  | [], st => List.prefix_refl _
  | k :: ks, st => (cstep_pre m ps st k).trans (fold_pre m ps ks _)
theorem carry_pre (m : Nat) (ps : List Part) (ks : List Nat) (qs : List Part) (j : Nat) : (mCarry m ps (ks.take j) qs).1 <+: (mCarry m ps ks qs).1 := by
  have e : mCarry m ps ks qs = (ks.drop j).foldl (cstep m ps) (mCarry m ps (ks.take j) qs) := by
    unfold mCarry
    rw [← List.foldl_append, List.take_append_drop]
  rw [e]
  exact fold_pre m ps _ _
theorem carry_again {n m u : Nat} {plain : Bool} {ps qs : List Part} {i : Nat} {ks : List Nat} (n1 : 1 ≤ n) (m1 : 1 ≤ m) (hp : Rows n u plain ps) (hq : Rows m u plain qs) (hr : ReachL ps i ks) (hi : i < ps.length) :
    ∀ j, j ≤ ks.length → mCarry m ps (ks.take j) (mCarry m ps ks qs).1 = ((mCarry m ps ks qs).1, (mCarry m ps (ks.take j) qs).2) := by
  intro j
  induction j with
  | zero => intro _; rfl
  | succ j ih =>
    intro hj
    obtain ⟨k, hk⟩ : ∃ k, ks[j]? = some k := ⟨_, List.getElem?_eq_getElem (by omega)⟩
    have hkl : k < ps.length := by have := ((hr.mem k).mp (List.mem_of_getElem? hk)).le hp.ok.wf; omega
    obtain ⟨p, e⟩ : ∃ p, ps[k]? = some p := ⟨_, List.getElem?_eq_getElem hkl⟩
    have sem := carry_sem n1 m1 (env0 n) hp hq hr hi j
    have hab := hab_take hp.ok.wf hr hk e
    have pre := carry_pre m ps ks qs (j + 1)
    rw [take_snoc hk, mCarry_snoc, ih (by omega), mCarry_snoc]
    rw [take_snoc hk, mCarry_snoc] at pre
    have pre : (cstepR m ps (mCarry m ps (ks.take j) qs) k).2 <+: (mCarry m ps ks qs).1 := pre
    have key : cstepR m ps ((mCarry m ps ks qs).1, (mCarry m ps (ks.take j) qs).2) k = ((cstepR m ps (mCarry m ps (ks.take j) qs) k).1, (mCarry m ps ks qs).1) := by
      unfold cstepR at pre ⊢
      rw [e] at pre ⊢
      cases p with
      | num v => exact mk_again pre
      | get g => exact mk_again pre
      | op o a b =>
        obtain ⟨ha, hb⟩ := hab o a b rfl
        exact mApply_again (sem.inv.look ha) (sem.inv.look hb) pre
    unfold cstep
    rw [key]
theorem carry_twice {n m u : Nat} {plain : Bool} {ps qs : List Part} {i : Nat} {ks : List Nat} (n1 : 1 ≤ n) (m1 : 1 ≤ m) (hp : Rows n u plain ps) (hq : Rows m u plain qs) (hr : ReachL ps i ks) (hi : i < ps.length) : mCarry m ps ks (mCarry m ps ks qs).1 = mCarry m ps ks qs := by
  have := carry_again n1 m1 hp hq hr hi ks.length (Nat.le_refl _)
  rw [List.take_length] at this
  rw [this]
end My

/-! R13 -/
namespace My
open PySem L2
theorem pair_rows {n u : Nat} {plain : Bool} {rs : List Part} (h : Rows n u plain rs) {x y : Nat} {t b : Op} (hx : x < rs.length) (hy : y < rs.length) (hp : PairO t b) : Rows n u plain (rs ++ [.op t x y] ++ [.op b rs.length y]) := by
  refine (h.snoc (p := .op t x y) ⟨⟨hx, hy⟩, trivial, fun g e => (by cases e), fun _ o a c e => ?_⟩).snoc (p := .op b rs.length y) ⟨⟨by simp, by simp; omega⟩, trivial, fun g e => (by cases e), fun _ o a c e => ?_⟩
  · cases e; rcases hp with ⟨rfl, _⟩ | ⟨rfl, _⟩ <;> exact ⟨by decide, by decide⟩
  · cases e; rcases hp with ⟨_, rfl⟩ | ⟨_, rfl⟩ <;> exact ⟨by decide, by decide⟩
theorem pair_words {n u : Nat} (n1 : 1 ≤ n) {plain : Bool} {rs : List Part} (h : Rows n u plain rs) {x y : Nat} {t b : Op} (hx : x < rs.length) (hy : y < rs.length) (hp : PairO t b) {env : Int → Int} (he : EnvG n env) :
    evAt n env (rs ++ [.op t x y] ++ [.op b rs.length y]) x = evAt n env (rs ++ [.op t x y] ++ [.op b rs.length y]) (rs.length + 1) := by
  have ro := pair_rows h hx hy hp
  have e1 : (rs ++ [Part.op t x y] ++ [.op b rs.length y])[rs.length + 1]? = some (.op b rs.length y) := by
    rw [List.getElem?_append_right (by simp)]; simp
  have e0 : (rs ++ [Part.op t x y] ++ [.op b rs.length y])[rs.length]? = some (.op t x y) := by
    rw [List.getElem?_append_left (by simp), List.getElem?_append_right (Nat.le_refl _), Nat.sub_self]; rfl
  have v1 : evAt n env (rs ++ [Part.op t x y] ++ [.op b rs.length y]) (rs.length + 1) = opI n b (evAt n env (rs ++ [Part.op t x y] ++ [.op b rs.length y]) rs.length) (evAt n env (rs ++ [Part.op t x y] ++ [.op b rs.length y]) y) := evAt_eq ro.ok.wf e1
  have v0 : evAt n env (rs ++ [Part.op t x y] ++ [.op b rs.length y]) rs.length = opI n t (evAt n env (rs ++ [Part.op t x y] ++ [.op b rs.length y]) x) (evAt n env (rs ++ [Part.op t x y] ++ [.op b rs.length y]) y) := evAt_eq ro.ok.wf e0
  rw [v1, v0]
  have gx := evAt_gd n1 he ro.ok x
  have gy := evAt_gd n1 he ro.ok y
  rcases hp with ⟨rfl, rfl⟩ | ⟨rfl, rfl⟩
  · exact (add_sub' gx).symm
  · exact (xor_xor' gx gy).symm
end My

/-! LO -/
namespace My
open PySem L2
local macro_rules | `(tactic| walk_at "side") => `(tactic| first | with_reducible rfl | assumption | rfl | decide | omega | exact cpow1 (by omega) (by omega) | exact cdiv (by omega) (by omega) | exact two_pos _ | exact SqL.of (by assumption) | exact SqT.of (by assumption) | exact TyX.base (TyOf.int _) | exact TyX.base (TyOf.bl _) | exact TyX.base TyOf.non | exact scal_opt _ _ | exact k_ii | exact k_bi | exact k_ni | exact k_ib | exact k_bb | exact TyX.base (TyOf.lst (by assumption)) | exact k_ll | exact k_lt)
local macro_rules | `(tactic| walk_at "p") => `(tactic| repeat (first | refine And.intro (by walk_at "side") ?_ | apply Exists.intro | refine iteN (by assumption) ?_ | refine iteP (by assumption) ?_ | refine iteN (by decide) ?_ | refine iteP (by decide) ?_))

section
variable {P : Program} {w : World} {K : PySem.W.Frag} {mg : Str → Option Value} {base : Heap}
/-- what stands while the law goes on -/
structure LawSt (C : Addr) (n : Nat) (ps rs : List Part) (pl : List Nat) (ws du : List Int) (p q a l d L Pl Wd Du R : Addr) (H : Hp) : Prop where
  dr : Dr H p q
  pool : PoolAt C H a l d n ps
  parts : LAt H L ps
  rows : LAt H R rs
  places : H Pl = some (.lst (natL pl))
  words : H Wd = some (.lst (intL ws))
  dues : H Du = some (.lst (intL du))
structure Off (x p q l d L Pl Wd Du R : Addr) : Prop where
  o1 : x ≠ p
  o2 : x ≠ q
  o3 : x ≠ l
  o9 : x ≠ d
  o4 : x ≠ L
  o5 : x ≠ Pl
  o6 : x ≠ Wd
  o7 : x ≠ Du
  o8 : x ≠ R
theorem LawSt.off {C : Addr} {n : Nat} {ps rs : List Part} {pl : List Nat} {ws du : List Int} {p q a l d L Pl Wd Du R x : Addr} {H : Hp} (h : LawSt C n ps rs pl ws du p q a l d L Pl Wd Du R H) (hx : H x = none) : Off x p q l d L Pl Wd Du R := by
  obtain ⟨_, _, d1, d2, _⟩ := h.dr
  obtain ⟨_, e3, _⟩ := h.pool.lst
  obtain ⟨_, e4, _⟩ := h.parts
  obtain ⟨_, e8, _⟩ := h.rows
  exact ⟨(ne_of_none d1 hx).symm, (ne_of_none d2 hx).symm, (ne_of_none e3 hx).symm, (ne_of_none h.pool.dic hx).symm, (ne_of_none e4 hx).symm, (ne_of_none h.places hx).symm, (ne_of_none h.words hx).symm, (ne_of_none h.dues hx).symm, (ne_of_none e8 hx).symm⟩
theorem LawSt.news {C : Addr} {n : Nat} {ps rs : List Part} {pl : List Nat} {ws du : List Int} {p q a l d L Pl Wd Du R : Addr} {H H' : Hp} (h : LawSt C n ps rs pl ws du p q a l d L Pl Wd Du R H) (s : Same H H') : LawSt C n ps rs pl ws du p q a l d L Pl Wd Du R H' :=
  ⟨h.dr.news s, h.pool.news s, h.parts.news s, h.rows.news s, s _ _ h.places, s _ _ h.words, s _ _ h.dues⟩
structure Pne (p l L Pl Wd Du R : Addr) : Prop where
  o3 : l ≠ p
  o4 : L ≠ p
  o5 : Pl ≠ p
  o6 : Wd ≠ p
  o7 : Du ≠ p
  o8 : R ≠ p
theorem LawSt.take {C : Addr} {n : Nat} {ps rs : List Part} {pl : List Nat} {ws du : List Int} {p q a l d L Pl Wd Du R : Addr} {H H' : Hp} (h : LawSt C n ps rs pl ws du p q a l d L Pl Wd Du R H) (o : Pne p l L Pl Wd Du R) (d' : Dr H' p q) (s : ∀ b o, H b = some o → b ≠ p → H' b = some o) : LawSt C n ps rs pl ws du p q a l d L Pl Wd Du R H' := by
  obtain ⟨_, _, d1, _, _⟩ := h.dr
  exact ⟨d', h.pool.but d1 o.o3 s, h.parts.but d1 o.o4 s, h.rows.but d1 o.o8 s, s _ _ h.places o.o5, s _ _ h.words o.o6, s _ _ h.dues o.o7⟩
/-- what is made anew may change -/
theorem LawSt.but3 {C : Addr} {n : Nat} {ps rs : List Part} {pl : List Nat} {ws du : List Int} {p q a l d L Pl Wd Du R M l2 d2 : Addr} {H H' : Hp} {xs ys : List V} {kvs : List (List Key × V)} (h : LawSt C n ps rs pl ws du p q a l d L Pl Wd Du R H) (hM : H M = some (.lst xs)) (hl : H l2 = some (.lst ys)) (hd : H d2 = some (.dT kvs))
    (oM : Off M p q l d L Pl Wd Du R) (ol : Off l2 p q l d L Pl Wd Du R) (od : Off d2 p q l d L Pl Wd Du R) (s : ∀ b o, H b = some o → b ≠ M → b ≠ l2 → b ≠ d2 → H' b = some o) : LawSt C n ps rs pl ws du p q a l d L Pl Wd Du R H' := by
  have kk : Keep (fun b => b = M ∨ b = l2 ∨ b = d2) H H' := fun b o e hb => s b o e (fun z => hb (.inl z)) (fun z => hb (.inr (.inl z))) fun z => hb (.inr (.inr z))
  have tt : ∀ t xs, H t = some (.tup xs) → ¬ (t = M ∨ t = l2 ∨ t = d2) := fun t xs e => by
    rintro (z | z | z)
    · exact ne_of e hM (by intro z; cases z) z
    · exact ne_of e hl (by intro z; cases z) z
    · exact ne_of e hd (by intro z; cases z) z
  have nn : ∀ b : Addr, M ≠ b → l2 ≠ b → d2 ≠ b → ¬ (b = M ∨ b = l2 ∨ b = d2) := fun b h1 h2 h3 => by
    rintro (z | z | z)
    · exact h1 z.symm
    · exact h2 z.symm
    · exact h3 z.symm
  obtain ⟨dx, ho⟩ := id h.pool.ob
  refine ⟨h.dr.keep kk (nn _ oM.o1 ol.o1 od.o1) (nn _ oM.o2 ol.o2 od.o2), h.pool.keep kk ?_ (nn _ oM.o3 ol.o3 od.o3) (nn _ oM.o9 ol.o9 od.o9) tt, h.parts.keep kk (nn _ oM.o4 ol.o4 od.o4) tt, h.rows.keep kk (nn _ oM.o8 ol.o8 od.o8) tt,
    kk _ _ h.places (nn _ oM.o5 ol.o5 od.o5), kk _ _ h.words (nn _ oM.o6 ol.o6 od.o6), kk _ _ h.dues (nn _ oM.o7 ol.o7 od.o7)⟩
  rintro (z | z | z)
  · exact ne_of ho hM (by intro z; cases z) z
  · exact ne_of ho hl (by intro z; cases z) z
  · exact ne_of ho hd (by intro z; cases z) z
theorem gNe {i : Nat} {v v' : V} {σ : L2.St} {H : Hp} {Q : L2.St → Hp → Prop} (e : v = v') (h : gName i v' σ H Q) : gName i v σ H Q := e ▸ h
def sp_law (T : Txt K mg) : Sp := fun vs H Q _ => ∃ (a : Addr) (xs : List Int), vs = [.ref a] ∧ SqL K H a (xs.map V.int) ∧ xs.length ≤ 63 ∧ ∀ H', Q (.bl true) H'
theorem sp_law_len {T : Txt K mg} {vs H Q E} (h : sp_law T vs H Q E) : vs.length = 1 := by obtain ⟨_, _, rfl, _⟩ := h; rfl
theorem ok_law (T : Txt K mg) : FnOk P w K mg base CX0 9 T.f_law T.fd_law ["_law_script"] (sp_law T) := by
  have G_p_iter := ok_p_iter (P := P) (w := w) (base := base) T; have G_p_len := ok_p_len (P := P) (w := w) (base := base) T; have G_p_init := ok_p_init (P := P) (w := w) (base := base) T; have G_law_all_made := ok_law_all_made (P := P) (w := w) (base := base) T; have G_law_carried_well := ok_law_carried_well (P := P) (w := w) (base := base) T; have G_law_doubled := ok_law_doubled (P := P) (w := w) (base := base) T; have G_law_draws := ok_law_draws (P := P) (w := w) (base := base) T; have G_law_low_words := ok_law_low_words (P := P) (w := w) (base := base) T; have G_law_pair_rows := ok_law_pair_rows (P := P) (w := w) (base := base) T; have G_law_pair_same := ok_law_pair_same (P := P) (w := w) (base := base) T; have G_law_refused := ok_law_refused (P := P) (w := w) (base := base) T; have G_law_row_words := ok_law_row_words (P := P) (w := w) (base := base) T; have G_law_take := ok_law_take (P := P) (w := w) (base := base) T; have G_law_term_rows := ok_law_term_rows (P := P) (w := w) (base := base) T; have G_law_twice := ok_law_twice (P := P) (w := w) (base := base) T; have G_law_word := ok_law_word (P := P) (w := w) (base := base) T; have G_carried := ok_carried (P := P) (w := w) (base := base) T
  refine T.F_law.ok sc_law (fun vs H Q E h => sp_law_len h) (fun cdv A outer s H vs Q E hr h => ?_)
  obtain ⟨s0, xs, rfl, hs, h63, k⟩ := h
  refine ⟨_, (pss_cons (ps_set (i := 1) sc_law.nd rfl (Or.inl rfl) (pe_call G_law_draws (hr.mono (by decide)) rfl T.g_law_draws T.F_law_draws.kp T.b_law_draws .nil pass0 (pa_cons (pv 0) pa_nil)))
       (pss_cons (ps_set (i := 2) sc_law.nd rfl (Or.inl rfl) (pe_op op_add pe_int (pe_call G_law_take (hr.mono (by decide)) rfl T.g_law_take T.F_law_take.kp T.b_law_take .nil pass0 (pa_cons (pv 1) (pa_cons pe_int pa_nil)))))
       (pss_cons (ps_set (i := 3) sc_law.nd rfl (Or.inl rfl) (pe_op op_add pe_int (pe_call G_law_take (hr.mono (by decide)) rfl T.g_law_take T.F_law_take.kp T.b_law_take .nil pass0 (pa_cons (pv 1) (pa_cons pe_int pa_nil)))))
       (pss_cons (ps_set (i := 4) sc_law.nd rfl (Or.inl rfl) (pe_cmpR op_lt (pe_call G_law_take (hr.mono (by decide)) rfl T.g_law_take T.F_law_take.kp T.b_law_take .nil pass0 (pa_cons (pv 1) (pa_cons pe_int pa_nil))) pe_int (nomark _)))
       (pss_cons (ps_set (i := 5) sc_law.nd rfl (Or.inl rfl) (pe_call G_law_term_rows (hr.mono (by decide)) rfl T.g_law_term_rows T.F_law_term_rows.kp T.b_law_term_rows .nil pass0 (pa_cons (pv 1) (pa_cons (pv 3) (pa_cons (pv 2) (pa_cons (pe_op op_add pe_int (pe_call G_law_take (hr.mono (by decide)) rfl T.g_law_take T.F_law_take.kp T.b_law_take .nil pass0 (pa_cons (pv 1) (pa_cons pe_int pa_nil)))) (pa_cons (pv 4) pa_nil)))))))
       (pss_cons (ps_set (i := 6) sc_law.nd rfl (Or.inl rfl) (pe_un un_neg pe_int))
       (Evl.pss_cut (ps_if (pt_cmpR op_eq (pe_call G_law_take (hr.mono (by decide)) rfl T.g_law_take T.F_law_take.kp T.b_law_take .nil pass0 (pa_cons (pv 1) (pa_cons pe_int pa_nil))) pe_int (nomark _))
        (pss_one (ps_set (i := 6) sc_law.nd rfl (Or.inl rfl) (pe_call G_law_pair_rows (hr.mono (by decide)) rfl T.g_law_pair_rows T.F_law_pair_rows.kp T.b_law_pair_rows .nil pass0 (pa_cons (pv 1) (pa_cons (pv 5) pa_nil)))))
        pss_nil)
       (pss_cons (ps_set (i := 7) sc_law.nd rfl (Or.inl rfl) (pe_make T.M_Pool G_p_init (hr.mono (by decide)) rfl T.g_Pool T.b_p_init .nil pass0 (pa_cons (pv 2) pa_nil)))
       (pss_cons (ps_set (i := 8) sc_law.nd rfl (Or.inl rfl) (pe_lst pa_nil))
       (pss_cons (ps_set (i := 9) sc_law.nd rfl (Or.inl rfl) (pe_call G_law_all_made (hr.mono (by decide)) rfl T.g_law_all_made T.F_law_all_made.kp T.b_law_all_made .nil pass0 (pa_cons (pv 7) (pa_cons (pv 8) (pa_cons (pv 2) (pa_cons (pv 5) pa_nil))))))
       (pss_cons (ps_if (pt_cmpR op_ne (pe_callB call_lenL (by rfl) T.n_len (by decide +kernel) (pa_cons (pv 9) pa_nil)) (pe_callB call_lenL (by rfl) T.n_len (by decide +kernel) (pa_cons (pv 5) pa_nil)) (nomark _))
        (pss_one (ps_ret pe_bl))
        pss_nil)
       (pss_cons (ps_set (i := 10) sc_law.nd rfl (Or.inl rfl) (pe_lst pa_nil))
       (pss_cons (ps_for PassesOwn.never rfl (pi_range1 (by rfl) T.n_range (pa_cons (pv 3) pa_nil)) (pg_name (i := 11) sc_law.nd rfl (Or.inl rfl))
        (pss_one (ps_expr (pe_bm PySem.F.plainAttrs_list PySem.F.slot_list_append PySem.F.type_list_append mt_append (pv 10) (pa_cons (pe_call G_law_word (hr.mono (by decide)) rfl T.g_law_word T.F_law_word.kp T.b_law_word .nil pass0 (pa_cons (pv 1) (pa_cons (pv 2) pa_nil))) pa_nil)))))
       (pss_cons (ps_set (i := 12) sc_law.nd rfl (Or.inl rfl) (pe_call G_law_row_words (hr.mono (by decide)) rfl T.g_law_row_words T.F_law_row_words.kp T.b_law_row_words .nil pass0 (pa_cons (pv 5) (pa_cons (pv 10) (pa_cons (pv 2) pa_nil)))))
       (pss_cons (ps_set (i := 13) sc_law.nd rfl (Or.inl rfl) (pe_op op_sub (pe_callB call_lenL (by rfl) T.n_len (by decide +kernel) (pa_cons (pv 5) pa_nil)) pe_int))
       (pss_cons (ps_for PassesOwn.never rfl (pi_range2 (by rfl) T.n_range (pa_cons pe_int (pa_cons (pe_op op_add (pv 2) pe_int) pa_nil))) (pg_name (i := 14) sc_law.nd rfl (Or.inl rfl))
        (pss_cons (ps_set (i := 15) sc_law.nd rfl (Or.inl rfl) (pe_make T.M_Pool G_p_init (hr.mono (by decide)) rfl T.g_Pool T.b_p_init .nil pass0 (pa_cons (pv 14) pa_nil)))
       (pss_cons (ps_set (i := 16) sc_law.nd rfl (Or.inl rfl) (pe_lst pa_nil))
       (pss_one (ps_for PassesOwn.never rfl (pi_list (pe_lst (pa_cons (pv 13) (pa_cons (pe_call G_law_take (hr.mono (by decide)) rfl T.g_law_take T.F_law_take.kp T.b_law_take .nil pass0 (pa_cons (pv 1) (pa_cons (pe_callB call_lenL (by rfl) T.n_len (by decide +kernel) (pa_cons (pv 5) pa_nil)) pa_nil))) pa_nil)))) (pg_name (i := 17) sc_law.nd rfl (Or.inl rfl))
        (pss_cons (ps_if (pt_not (pt_val (pe_call G_law_carried_well (hr.mono (by decide)) rfl T.g_law_carried_well T.F_law_carried_well.kp T.b_law_carried_well .nil pass0 (pa_cons (pv 7) (pa_cons (pv 8) (pa_cons (pe_ix ix_list (pv 9) (pv 17) (fun _ _ => rfl)) (pa_cons (pv 15) (pa_cons (pv 16) (pa_cons (pv 14) pa_nil)))))))))
        (pss_one (ps_ret pe_bl))
        pss_nil)
       (pss_one (ps_if (PW.pt (pw_and (pt_val (pv 4)) (pw_and1 (pt_cmpR op_le (pv 14) (pv 2) (nomark _)))))
        (pss_one (ps_if (pt_not (pt_val (pe_call G_law_low_words (hr.mono (by decide)) rfl T.g_law_low_words T.F_law_low_words.kp T.b_law_low_words .nil pass0 (pa_cons (pv 15) (pa_cons (pe_call G_carried (hr.mono (by decide)) rfl T.g_carried T.F_carried.kp T.b_carried .nil passL (pa_cons (pv 7) (pa_cons (pe_ix ix_list (pv 9) (pv 17) (fun _ _ => rfl)) (pa_cons (pv 15) pa_nil)))) (pa_cons (pv 10) (pa_cons (pe_ix ix_list (pv 12) (pv 17) (fun _ _ => rfl)) (pa_cons (pv 14) pa_nil))))))))
        (pss_one (ps_ret pe_bl))
        pss_nil))
        pss_nil))))))))
       (Evl.pss_cut (ps_if (PW.pt (pw_and (pt_val (pv 4)) (pw_and1 (pt_not (pt_val (pe_call G_law_twice hr rfl T.g_law_twice T.F_law_twice.kp T.b_law_twice .nil pass0 (pa_cons (pv 7) (pa_cons (pv 8) (pa_cons (pe_ix ix_list (pv 9) (pv 13) (fun _ _ => rfl)) (pa_cons (pv 10) (pa_cons (pe_ix ix_list (pv 12) (pv 13) (fun _ _ => rfl)) (pa_cons (pe_op op_add pe_int (pe_call G_law_take (hr.mono (by decide)) rfl T.g_law_take T.F_law_take.kp T.b_law_take .nil pass0 (pa_cons (pv 1) (pa_cons (pv 2) pa_nil)))) pa_nil))))))))))))
        (pss_one (ps_ret pe_bl))
        pss_nil)
       (Evl.pss_cut (ps_if (PW.pt (pw_and (pt_val (pv 4)) (pw_and (pt_cmpR op_ge (pv 6) pe_int (nomark _)) (pw_and1 (pt_not (pt_val (pe_call G_law_pair_same (hr.mono (by decide)) rfl T.g_law_pair_same T.F_law_pair_same.kp T.b_law_pair_same .nil pass0 (pa_cons (pv 7) (pa_cons (pe_ix ix_list (pv 9) (pv 6) (fun _ _ => rfl)) (pa_cons (pe_ix ix_list (pv 9) (pv 13) (fun _ _ => rfl)) (pa_cons (pv 3) (pa_cons (pe_callB (call_min2 rfl) (by rfl) T.n_min (by decide +kernel) (pa_cons (pv 2) (pa_cons pe_int pa_nil))) pa_nil))))))))))))
        (pss_one (ps_ret pe_bl))
        pss_nil)
       (pss_cons (ps_set (i := 18) sc_law.nd rfl (Or.inl rfl) (pe_ix ix_list (pe_lst (pa_cons (pe_un un_neg pe_int) (pa_cons (pe_callB (call_lenOwn T.m_p_len.1 (beq_iff_eq.mp T.m_p_len.2) G_p_len T.b_p_len (hr.mono (by decide))) (by rfl) T.n_len (by decide +kernel) (pa_cons (pv 7) pa_nil)) (pa_cons (pe_op op_pow pe_int pe_int) (pa_cons pe_bl (pa_cons pe_non pa_nil)))))) (pe_call G_law_take (hr.mono (by decide)) rfl T.g_law_take T.F_law_take.kp T.b_law_take .nil pass0 (pa_cons (pv 1) (pa_cons pe_int pa_nil))) (fun _ _ => rfl)))
       (pss_cons (ps_if (pt_not (pt_val (pe_call G_law_refused (hr.mono (by decide)) rfl T.g_law_refused T.F_law_refused.kp T.b_law_refused .nil pass0 (pa_cons (pv 7) (pa_cons (pv 18) (pa_cons (pe_make T.M_Pool G_p_init (hr.mono (by decide)) rfl T.g_Pool T.b_p_init .nil pass0 (pa_cons (pe_op op_add pe_int (pe_call G_law_take (hr.mono (by decide)) rfl T.g_law_take T.F_law_take.kp T.b_law_take .nil pass0 (pa_cons (pv 1) (pa_cons pe_int pa_nil)))) pa_nil)) pa_nil))))))
        (pss_one (ps_ret pe_bl))
        pss_nil)
       (pss_one (ps_ret (pe_and (pe_call G_law_doubled (hr.mono (by decide)) rfl T.g_law_doubled T.F_law_doubled.kp T.b_law_doubled .nil pass0 (pa_cons (pv 2) pa_nil)) (pe_one (pe_cmpR (op_eqD hr.units) (pe_callTy (call_listOwn2 T.m_p_iter.1 T.m_p_iter.2 T.m_p_len.1 (beq_iff_eq.mp T.m_p_len.2) G_p_iter T.b_p_iter G_p_len T.b_p_len rfl (hr.mono (by decide))) (by rfl) T.n_list (by decide +kernel) (pa_cons (pv 7) pa_nil)) (pv 8) (nomark _)))))))))))))))))))))))))), ?_⟩
  have sz : sizeLine = 16777216 := sizeLine_eq
  refine ⟨_, rfl, s0, xs, rfl, hs, h63, fun H1 p q s1 hp0 hq0 hpq dr1 => ?_⟩
  -- width, unknowns, plain
  refine ⟨_, rfl, p, q, _, rfl, dr1, hpq, by decide, fun H2 v2 v20 v21 dr2 f2 => ?_⟩
  refine ⟨_, _, rfl, rfl, ?_⟩
  obtain ⟨n, en, n2, n8⟩ : ∃ n : Nat, (2 : Int) + v2 = (n : Nat) ∧ 2 ≤ n ∧ n ≤ 8 := ⟨(2 + v2).toNat, by omega, by omega, by omega⟩
  refine gNe (v' := V.int (n : Nat)) (congrArg V.int en) ?_
  refine ⟨_, rfl, p, q, _, rfl, dr2, hpq, by decide, fun H3 v3 v30 v31 dr3 f3 => ?_⟩
  refine ⟨_, _, rfl, rfl, ?_⟩
  obtain ⟨u, eu, u1, u3⟩ : ∃ u : Nat, (1 : Int) + v3 = (u : Nat) ∧ 1 ≤ u ∧ u ≤ 3 := ⟨(1 + v3).toNat, by omega, by omega, by omega⟩
  refine gNe (v' := V.int (u : Nat)) (congrArg V.int eu) ?_
  refine ⟨_, rfl, p, q, _, rfl, dr3, hpq, by decide, fun H4 v4 v40 v41 dr4 f4 => ?_⟩
  refine ⟨_, _, rfl, rfl, ?_⟩
  obtain ⟨plain, epl⟩ : ∃ b : Bool, decide (v4 < 2) = b := ⟨_, rfl⟩
  refine gNe (v' := V.bl plain) (congrArg V.bl epl) ?_
  clear epl
  -- the rows
  refine ⟨_, rfl, _, rfl, _, rfl, _, rfl, p, q, _, rfl, dr4, hpq, by decide, fun H5 v5 v50 v51 dr5 f5 => ?_⟩
  obtain ⟨b5, rfl⟩ := Int.eq_ofNat_of_zero_le v50
  refine ⟨_, _, rfl, rfl, _, rfl, p, q, u, n, 2 + b5, plain, rfl, dr5, hpq, by omega, by omega, u3, by omega, fun H6 R rs hR dr6 ra ro hlen => ?_⟩
  have Rp : R ≠ p := by obtain ⟨_, _, h1, _⟩ := dr5; exact (ne_of_none h1 hR).symm
  have Rq : R ≠ q := by obtain ⟨_, _, _, h1, _⟩ := dr5; exact (ne_of_none h1 hR).symm
  have lR := ra.at_
  clear ra
  -- the twin
  refine ⟨1, rfl, ?_⟩
  refine ⟨fun σ' H' => ∃ (rs : List Part) (tw : Int), σ' = [some (.ref s0), some (.ref p), some (.int (n : Nat)), some (.int (u : Nat)), some (.bl plain), some (.ref R), some (.int tw), none, none, none, none, none, none, none, none, none, none, none, none] ∧ Dr H' p q ∧ LAt H' R rs ∧ Rows n u plain rs ∧ rs.length ≤ 15 ∧ 1 ≤ rs.length ∧
    (tw = -1 ∨ ∃ x : Nat, tw = x ∧ x < rs.length ∧ ∀ env, EnvG n env → evAt n env rs x = evAt n env rs (rs.length - 1)), ?_, ?_⟩
  · refine ⟨_, rfl, p, q, _, rfl, dr6, hpq, by decide, fun H7 v7 v70 v71 dr7 f7 => ⟨rfl, _, rfl, ?_⟩⟩
    have lR7 := lR.take dr6 Rp f7
    by_cases h7 : v7 = 1
    · refine iteP (dT (by rw [h7])) ?_
      refine ⟨_, rfl, _, rfl, p, q, R, rs, rfl, dr7, hpq, lR7, Rp, Rq, by omega, by omega, fun H8 x y t b hx hy hpo dr8 lR8 f8 => ?_⟩
      refine ⟨_, _, rfl, dr8, lR8, pair_rows ro hx hy hpo, by simp; omega, by simp, .inr ⟨x, rfl, by simp; omega, fun env he => ?_⟩⟩
      have := pair_words (by omega) ro hx hy hpo he
      rw [this]
      congr 1
      simp
    · refine iteN (dF (by intro e; injection e with e; exact h7 e)) ?_
      exact ⟨rs, -1, rfl, dr7, lR7, ro, by omega, by omega, .inl rfl⟩
  clear lR ro hlen dr6
  rintro σ' H7 ⟨rs, tw, rfl, dr7, lR7, ro, r15, r1, htw⟩
  -- pool, parts, places
  refine ⟨_, rfl, fun a dxa ha hdxa hnea => ⟨a, dxa, n, rfl, upd_same, by omega, by omega, fun H8 l d hl hd _ hp8 f8 => ⟨rfl, ?_⟩⟩⟩
  obtain ⟨s8, hl, hd⟩ := mkFacts ha hdxa hl hd f8
  refine ⟨Nat.zero_le _, fun L hL => ?_⟩
  have s9 := same_new (o := .lst []) hL
  have lL : LAt (upd H8 L (.lst [])) L [] := ⟨[], upd_same, rfl, fun i q e => by simp at e⟩
  have s79 := s8.trans s9
  have hL7 := s8.free hL
  obtain ⟨xsR, hXR, exR, _⟩ := lR7.item
  obtain ⟨_, _, hp7, hq7, _⟩ := id dr7
  obtain ⟨_, hl8, _⟩ := id hp8.lst
  have hd8 := hp8.dic
  have Ll : L ≠ l := fun e => by rw [e, hl8] at hL; cases hL
  have RL' : R ≠ L := ne_of_none hXR hL7
  have Rl : R ≠ l := ne_of_none hXR hl
  refine ⟨_, rfl, _, rfl, _, rfl, _, rfl, a, l, d, L, R, n, u, plain, rs, rfl, hp8.news s9, lL, lR7.news s79, ro, by omega, by omega, by omega, Ll, RL', Rl, fun H10 Pl hPl hp10 lL10 hP10 f10 => ?_⟩
  have inv := mAll_inv (by omega : 1 ≤ n) ro rs.length
  rw [List.take_length] at inv
  have hw := fun env (he : EnvG n env) k (hk : k < rs.length) => mAll_words (by omega : 1 ≤ n) ro he hk
  obtain ⟨rops, plen, pslen, there⟩ := inv
  generalize (mAll n rs).1 = ps at *
  generalize (mAll n rs).2 = pl at *
  have s10 : ∀ b o, H7 b = some o → H10 b = some o := fun b o e => f10 _ _ (s79 _ _ e) (ne_of_none e hL7) (ne_of_none e hl) (ne_of_none e hd)
  have pl_p : Pl ≠ p := (ne_of_none (s79 _ _ hp7) hPl).symm
  have l_p : l ≠ p := (ne_of_none hp7 hl).symm
  have L_p : L ≠ p := (ne_of_none hp7 hL7).symm
  have dr10 := dr7.news s10
  have lR10 := lR7.news s10
  refine ⟨_, rfl, Pl, _, rfl, SqL.of hP10, _, rfl, R, _, rfl, SqL.of (s10 _ _ hXR), rfl, _, rfl, iteN (by rw [natL_len, plen, exR]; simp) ?_⟩
  -- the words
  refine ⟨Nat.zero_le _, fun W hW => ?_⟩
  have s11 := same_new (o := .lst []) hW
  have ne0 : LawSt T.C n ps rs pl [] [] p q a l d L Pl W W R (upd H10 W (.lst [])) := ⟨dr10.news s11, hp10.news s11, lL10.news s11, lR10.news s11, s11 _ _ hP10, upd_same, upd_same⟩
  obtain ⟨_, _, hp10', hq10', _⟩ := id dr10
  obtain ⟨_, hl10, _⟩ := id hp10.lst
  obtain ⟨_, hL10, _⟩ := id lL10
  obtain ⟨_, hR10, _⟩ := id lR10
  have Wp : W ≠ p := (ne_of_none hp10' hW).symm
  have Wq : W ≠ q := (ne_of_none hq10' hW).symm
  have Wl : W ≠ l := (ne_of_none hl10 hW).symm
  have Wd : W ≠ d := (ne_of_none hp10.dic hW).symm
  have WL : W ≠ L := (ne_of_none hL10 hW).symm
  have WR : W ≠ R := (ne_of_none hR10 hW).symm
  have WP : W ≠ Pl := (ne_of_none hP10 hW).symm
  have pne : Pne p l L Pl W W R := ⟨l_p, L_p, pl_p, Wp, Wp, Rp⟩
  refine ⟨_, rfl, u, rfl, by omega, by omega, ?_⟩
  refine for_range (lo := 0) (n := ((u : Nat) : Int).toNat) (fun j σ' H' => ∃ (v11 : Option V) (ws : List Int), σ' = [some (.ref s0), some (.ref p), some (.int (n : Nat)), some (.int (u : Nat)), some (.bl plain), some (.ref R), some (.int tw), some (.ref a), some (.ref L), some (.ref Pl), some (.ref W), v11, none, none, none, none, none, none, none] ∧
    LawSt T.C n ps rs pl ws ws p q a l d L Pl W W R H' ∧ ws.length = j ∧ ∀ x ∈ ws, 0 ≤ x ∧ x < 2 ^ n) ⟨none, [], rfl, ne0, rfl, by simp⟩ ?_ ?_
  · rintro j σ' H11 hj ⟨v11, ws, rfl, st, hwl, gws⟩
    rw [Int.toNat_natCast] at hj
    refine ⟨_, rfl, .inl ⟨rfl, _, SqL.of st.words⟩, _, rfl, _, rfl, p, q, n, rfl, st.dr, hpq, by omega, fun H12 v v0 v1 dr12 f12 => ?_⟩
    have st2 := st.take pne dr12 f12
    refine ⟨W, _, _, rfl, rfl, st2.words, by rw [intL_len]; omega, _, ws ++ [v], rfl, ?_, by simp [hwl], fun x hx => ?_⟩
    · have ew : intL (ws ++ [v]) = intL ws ++ [.int v] := by unfold intL; rw [List.map_append]; rfl
      have f : ∀ b o, H12 b = some o → b ≠ W → upd H12 W (.lst (intL ws ++ [.int v])) b = some o := fun b o e hb => by rw [upd_ne hb]; exact e
      exact ⟨dr12.upd Wp Wq, st2.pool.but st2.words Wl.symm f, st2.parts.but st2.words WL.symm f, st2.rows.but st2.words WR.symm f, f _ _ st2.places WP.symm, by rw [ew]; exact upd_same, by rw [ew]; exact upd_same⟩
    · rcases List.mem_append.mp hx with hx | hx
      · exact gws x hx
      · simp at hx; subst hx; exact ⟨v0, v1⟩
  rintro σ' H11 ⟨v11, ws, rfl, st, hwl, gws⟩
  rw [Int.toNat_natCast] at hwl
  -- the words due
  refine ⟨_, rfl, _, rfl, _, rfl, R, W, n, u, rs, ws, rfl, st.rows, st.words, ro.ok, fun k g e => (by have := ro.gets k g e; omega), by omega, by omega, fun H12 Du s12 hDu hD12 => ?_⟩
  have st : LawSt T.C n ps rs pl ws (evs n (envOf ws) rs) p q a l d L Pl W Du R H12 := ⟨st.dr.news s12, st.pool.news s12, st.parts.news s12, st.rows.news s12, s12 _ _ st.places, s12 _ _ st.words, hD12⟩
  have Dup : Du ≠ p := by obtain ⟨_, _, h1, _⟩ := st.dr; intro e; subst e; obtain ⟨_, _, h2, _⟩ := ‹LawSt T.C n ps rs pl ws ws _ q a l d L Pl W W R H11›.dr; rw [h2] at hDu; cases hDu
  have pne : Pne p l L Pl W Du R := ⟨l_p, L_p, pl_p, Wp, Dup, Rp⟩
  have ge := env_of gws
  obtain ⟨xsR', hXR', exR', _⟩ := st.rows.item
  obtain ⟨last, elast, hlast⟩ : ∃ last : Nat, ((xsR'.length : Nat) : Int) - 1 = (last : Nat) ∧ last + 1 = rs.length := ⟨rs.length - 1, by omega, by omega⟩
  refine ⟨_, rfl, R, _, rfl, SqL.of hXR', _, _, rfl, rfl, ?_⟩
  refine gNe (v' := V.int (last : Nat)) (congrArg V.int elast) ?_
  -- every lesser width, the same and one more
  have okp : ∀ j : Nat, j < rs.length → pl.getD j 0 < ps.length := fun j hj => by
    rw [List.getD_eq_getElem?_getD, List.getElem?_eq_getElem (by omega)]
    exact there _ (List.getElem_mem (by omega))
  have due_at : ∀ j : Nat, j < rs.length → (evs n (envOf ws) rs).getD j 0 = evAt n (envOf ws) ps (pl.getD j 0) := fun j hj => (hw _ ge j hj).symm
  have duel : (evs n (envOf ws) rs).length = rs.length := evs_len _ _ _
  generalize evs n (envOf ws) rs = du at *
  clear hD12
  refine ⟨_, rfl, _, _, rfl, rfl, 1, _, rfl, ⟨by decide, by decide, by omega, by omega⟩, ?_⟩
  refine for_range (lo := 1) (n := (((n : Nat) : Int) + 2 - 1).toNat) (fun t σ' H' => ∃ v14 v15 v16 v17 : Option V, σ' = [some (.ref s0), some (.ref p), some (.int (n : Nat)), some (.int (u : Nat)), some (.bl plain), some (.ref R), some (.int tw), some (.ref a), some (.ref L), some (.ref Pl), some (.ref W), v11, some (.ref Du), some (.int (last : Nat)), v14, v15, v16, v17, none] ∧
    LawSt T.C n ps rs pl ws du p q a l d L Pl W Du R H') ⟨none, none, none, none, rfl, st⟩ ?_ ?_
  · rintro t σ' H13 ht ⟨v14, v15, v16, v17, rfl, st⟩
    have ht' : t < n + 1 := by omega
    have e1 : (1 : Int) + (t : Nat) = ((t + 1 : Nat) : Int) := by omega
    rw [e1]
    -- other = Pool(low); made = []
    refine ⟨_, rfl, fun c dxc hc hdxc hnec => ⟨c, dxc, t + 1, rfl, upd_same, by omega, by omega, fun H14 l2 d2 hl2 hd2 _ hp14 f14 => ⟨rfl, ?_⟩⟩⟩
    obtain ⟨s14, hl2, hd2⟩ := mkFacts hc hdxc hl2 hd2 f14
    have ol2 := st.off hl2
    have od2 := st.off hd2
    refine ⟨Nat.zero_le _, fun M hM => ?_⟩
    have s15 := same_new (o := .lst []) hM
    have oM := st.off (s14.free hM)
    have st15 := st.news (s14.trans s15)
    have hM15 : upd H14 M (.lst []) M = some (.lst []) := upd_same
    have hp15 := hp14.news s15
    have Ml2 : M ≠ l2 := fun e => by obtain ⟨ts, h, _⟩ := hp14.lst; rw [e, h] at hM; cases hM
    generalize upd H14 M (.lst []) = H15 at *
    obtain ⟨xsT, hXT, exT, _⟩ := st15.rows.item
    -- for at in [last, take(..)]
    refine ⟨_, rfl, _, rfl, _, rfl, R, _, rfl, SqL.of hXT, p, q, _, rfl, st15.dr, hpq, by omega, fun H16 v v0 v1 dr16 f16 => ?_⟩
    have st16 := st15.take pne dr16 f16
    obtain ⟨at2, rfl⟩ := Int.eq_ofNat_of_zero_le v0
    obtain ⟨_, _, hp15', _, _⟩ := id st15.dr
    have hp16 := hp15.but hp15' ol2.o1 f16
    have hM16 := f16 _ _ hM15 oM.o1
    refine ⟨by show 2 ≤ sizeLine; decide, fun Z hZ => ?_⟩
    have s17 := same_new (o := .lst [.int (last : Nat), .int (at2 : Nat)]) hZ
    have st17 := st16.news s17
    have hZ17 : upd H16 Z (.lst [.int (last : Nat), .int (at2 : Nat)]) Z = some (.lst [.int (last : Nat), .int (at2 : Nat)]) := upd_same
    have hp17 := hp16.news s17
    have hM17 := s17 _ _ hM16
    have ZM : Z ≠ M := (ne_of_none hM16 hZ).symm
    have Zl2 : Z ≠ l2 := by obtain ⟨_, h, _⟩ := hp16.lst; exact (ne_of_none h hZ).symm
    have Zd2 : Z ≠ d2 := (ne_of_none hp16.dic hZ).symm
    have lM17 : LAt (upd H16 Z (.lst [.int (last : Nat), .int (at2 : Nat)])) M [] := ⟨[], hM17, rfl, fun i q e => by simp at e⟩
    refine ⟨Z, rfl, ⟨_, SqL.of hZ17⟩, ?_⟩
    refine for_list (K := K) (a := Z) (xs := [.int (last : Nat), .int (at2 : Nat)]) (fun r σ' H' => ∃ (v17 : Option V) (Qs : List Part), σ' = [some (.ref s0), some (.ref p), some (.int (n : Nat)), some (.int (u : Nat)), some (.bl plain), some (.ref R), some (.int tw), some (.ref a), some (.ref L), some (.ref Pl), some (.ref W), v11, some (.ref Du), some (.int (last : Nat)), some (.int (t + 1 : Nat)), some (.ref c), some (.ref M), v17, none] ∧
      LawSt T.C n ps rs pl ws du p q a l d L Pl W Du R H' ∧ PoolAt T.C H' c l2 d2 (t + 1) Qs ∧ LAt H' M Qs ∧ Rows (t + 1) u plain Qs ∧ Qs.length ≤ 15 * r ∧ H' Z = some (.lst [.int (last : Nat), .int (at2 : Nat)])) ⟨_, [], rfl, st17, hp17, lM17, rows_nil _ _ _, by simp, hZ17⟩ ?_ ?_ ?_
    · rintro r σ' H' _ ⟨_, _, _, _, _, _, _, _, h⟩
      exact SqL.of h
    · rintro r x σ' H18 hx ⟨v17, Qs, rfl, st18, hp18, lM18, roQ, Ql, hZ18⟩
      have hr2 : r < 2 := (List.getElem?_eq_some_iff.mp hx).1
      obtain ⟨at_, rfl, hat⟩ : ∃ at_ : Nat, x = V.int (at_ : Nat) ∧ at_ < rs.length := by
        have : r = 0 ∨ r = 1 := by omega
        rcases this with rfl | rfl
        · cases hx; exact ⟨last, rfl, by omega⟩
        · cases hx; exact ⟨at2, rfl, by omega⟩
      have hi := okp at_ hat
      obtain ⟨_, hMM, _⟩ := id lM18
      obtain ⟨_, hll2, _⟩ := id hp18.lst
      have hdd2 := hp18.dic
      have ap : Apart l d L l2 d2 M := ⟨ol2.o3.symm, od2.o9.symm, oM.o4.symm, Ml2, oM.o3, ol2.o4.symm⟩
      -- carried well
      refine ⟨_, rfl, _, rfl, _, rfl, _, rfl, Pl, _, _, _, rfl, rfl, SqL.of st18.places, natL_at (by omega), _, rfl, _, rfl, _, rfl, a, l, d, L, c, l2, d2, M, n, t + 1, ps, Qs, _, rfl, st18.pool, st18.parts, rops.ok, by omega, hi, hp18, lM18, by omega, by omega, roQ.ok, by omega, ap, fun H19 ks hr' ci hp19 lM19 f19 => ?_⟩
      have st19 := st18.but3 hMM hll2 hdd2 oM ol2 od2 f19
      have hZ19 := f19 _ _ hZ18 ZM Zl2 Zd2
      have roQ2 := carry_rows (by omega : 1 ≤ n) (by omega : 1 ≤ t + 1) rops roQ hr' hi
      have kl := reach_len rops.ok.wf hr' hi
      have lm := ci.len
      refine ⟨_, rfl, iteN (by decide) ?_⟩
      -- the low words
      refine ⟨_, rfl, plain, rfl, ?_⟩
      cases hpl : plain with
      | false => exact iteN (by decide) (iteN (by decide) ⟨_, _, rfl, st19, hp19, lM19, by rw [← hpl]; exact roQ2, by omega, hZ19⟩)
      | true =>
        subst hpl
        refine iteP rfl ⟨_, rfl, _, rfl, _, _, rfl, rfl, _, rfl, ite2d (fun hle => ?_) fun _ => ?_⟩
        · refine ⟨_, rfl, _, rfl, _, rfl, _, rfl, Pl, _, _, _, rfl, rfl, SqL.of st19.places, natL_at (by omega), _, rfl, a, l, d, c, l2, d2, n, t + 1, ps, _, _, rfl, st19.pool, rops.ok, by omega, rfl, hp19, by omega, by omega, roQ2.ok, by omega, ap.a1, ap.a2, fun i' ei _ H20 ks' hr2 ci2 hp20 f20 => ?_, fun z => absurd (good_of hi) z⟩
          have ei' : pl.getD at_ 0 = i' := by injection ei with ei; omega
          subst ei'
          obtain rfl := hr'.uniq hr2
          have v3 := carry_words (by omega : 1 ≤ n) (by omega : 1 ≤ t + 1) (by omega : t + 1 ≤ n) ge rops roQ hr' hi
          have j3 := ci.look ((hr'.mem (pl.getD at_ 0)).mpr .self)
          rw [carry_twice (by omega : 1 ≤ n) (by omega : 1 ≤ t + 1) rops roQ hr' hi] at hp20 ⊢
          clear ci2
          obtain ⟨_, hll19, _⟩ := id hp19.lst
          obtain ⟨_, hMM19, _⟩ := id lM19
          have st20 := st19.but3 hMM19 hll19 hp19.dic oM ol2 od2 fun b o e _ h2 h3 => f20 b o e h2 h3
          have lM20 := lM19.but2 hll19 hp19.dic Ml2 f20
          have hZ20 := f20 _ _ hZ19 Zl2 Zd2
          refine ⟨_, rfl, _, rfl, _, rfl, Du, _, _, _, rfl, rfl, SqL.of st20.dues, intL_at (by omega), _, rfl, c, l2, d2, W, t + 1, u, true, _, _, ws, _, rfl, hp20, roQ2, by omega, by omega, j3, st20.words, by omega, by omega, by rw [v3, due_at at_ hat], fun H21 s21 => ?_⟩
          exact ⟨_, rfl, iteN (by decide) ⟨_, _, rfl, st20.news s21, hp20.news s21, lM20.news s21, roQ2, by omega, s21 _ _ hZ20⟩⟩
        · exact ⟨_, _, rfl, st19, hp19, lM19, roQ2, by omega, hZ19⟩
    rintro σ' H18 ⟨v17, Qs, rfl, st18, _⟩
    exact ⟨_, _, _, _, rfl, st18⟩
  clear st
  rintro σ' H13 ⟨v14, v15, v16, v17, rfl, st⟩
  have gl := okp last (by omega)
  -- carried twice
  refine ⟨fun σ' H' => ∃ v14 v15 v16 v17 : Option V, σ' = [some (.ref s0), some (.ref p), some (.int (n : Nat)), some (.int (u : Nat)), some (.bl plain), some (.ref R), some (.int tw), some (.ref a), some (.ref L), some (.ref Pl), some (.ref W), v11, some (.ref Du), some (.int (last : Nat)), v14, v15, v16, v17, none] ∧ LawSt T.C n ps rs pl ws du p q a l d L Pl W Du R H', ?_, ?_⟩
  · refine ⟨_, rfl, plain, rfl, ?_⟩
    cases hpl : plain with
    | false => exact iteN (by decide) (iteN (by decide) ⟨_, _, _, _, rfl, st⟩)
    | true =>
      subst hpl
      refine iteP rfl ⟨_, rfl, _, rfl, _, rfl, _, rfl, Pl, _, _, _, rfl, rfl, SqL.of st.places, natL_at (by omega), _, rfl, _, rfl, _, rfl, Du, _, _, _, rfl, rfl, SqL.of st.dues, intL_at (by omega), _, rfl, _, rfl, p, q, _, rfl, st.dr, hpq, by omega, fun H14 v v0 v1 dr14 f14 => ?_⟩
      obtain ⟨mv, rfl⟩ := Int.eq_ofNat_of_zero_le v0
      have st14 := st.take pne dr14 f14
      refine ⟨_, _, rfl, rfl, a, l, d, L, W, n, u, 1 + mv, ps, pl.getD last 0, ws, ?_, st14.pool, st14.parts, Ll, rops, by omega, by omega, by omega, gl, st14.words, by omega, by omega, gws, by omega, by omega, fun H15 s15 => ?_⟩
      · rw [due_at last (by omega)]; rfl
      · exact ⟨_, rfl, iteN (by decide) ⟨_, _, _, _, rfl, st14.news s15⟩⟩
  clear st
  rintro σ' H14 ⟨v14, v15, v16, v17, rfl, st⟩
  -- the pair
  refine ⟨fun σ' H' => ∃ v14 v15 v16 v17 : Option V, σ' = [some (.ref s0), some (.ref p), some (.int (n : Nat)), some (.int (u : Nat)), some (.bl plain), some (.ref R), some (.int tw), some (.ref a), some (.ref L), some (.ref Pl), some (.ref W), v11, some (.ref Du), some (.int (last : Nat)), v14, v15, v16, v17, none] ∧ LawSt T.C n ps rs pl ws du p q a l d L Pl W Du R H', ?_, ?_⟩
  · refine ⟨_, rfl, plain, rfl, ?_⟩
    cases hpl : plain with
    | false => exact iteN (by decide) (iteN (by decide) ⟨_, _, _, _, rfl, st⟩)
    | true =>
      subst hpl
      refine iteP rfl ⟨_, rfl, _, _, rfl, rfl, _, rfl, ?_⟩
      rcases htw with rfl | ⟨x, rfl, hx, hxe⟩
      · exact iteN (by decide) (iteN (by decide) ⟨_, _, _, _, rfl, st⟩)
      · obtain ⟨mm, hmm, mmn⟩ : ∃ mm : Nat, (if (4 : Int) < ((n : Nat) : Int) then (4 : Int) else ((n : Nat) : Int)) = (mm : Nat) ∧ mm ≤ n := by
          by_cases h2 : (4 : Int) < ((n : Nat) : Int)
          · exact ⟨4, by rw [if_pos h2]; rfl, by omega⟩
          · exact ⟨n, by rw [if_neg h2], by omega⟩
        refine iteP (dT (by omega)) ⟨_, rfl, _, rfl, _, rfl, Pl, _, _, _, rfl, rfl, SqL.of st.places, natL_at (by omega), _, rfl, _, rfl, Pl, _, _, _, rfl, rfl, SqL.of st.places, natL_at (by omega), _, rfl, _, rfl, _, _, rfl, a, l, d, n, u, mm, ps, pl.getD x 0, pl.getD last 0, by rw [hmm]; rfl, st.pool, rops, by omega, by omega, by omega, okp x hx, gl, u3, mmn, fun env he => ?_, fun H15 s15 => ?_⟩
        · rw [hw env he x hx, hw env he last (by omega), hxe env he]
          congr 1; omega
        · exact ⟨_, rfl, iteN (by decide) ⟨_, _, _, _, rfl, st.news s15⟩⟩
  clear st
  rintro σ' H15 ⟨v14, v15, v16, v17, rfl, st⟩
  -- what is no part is refused
  obtain ⟨dx15, ho15⟩ := id st.pool.ob
  refine ⟨1, rfl, _, rfl, a, dx15, _, ps.length, rfl, ho15, ⟨a, l, d, n, ps, rfl, st.pool, rfl, rfl⟩, by omega, _, _, rfl, rfl, ⟨by decide, by decide, by decide⟩, by show 5 ≤ sizeLine; decide, fun B hB => ?_⟩
  have oB := st.off hB
  generalize hbl : [V.int (-1), V.int (ps.length : Nat), V.int (10 ^ (28 : Int).toNat), V.bl true, V.non] = bads
  have sB := same_new (o := .lst bads) hB
  have stB := st.news sB
  have hB' : upd H15 B (.lst bads) B = some (.lst bads) := upd_same
  refine ⟨_, rfl, p, q, _, rfl, stB.dr, hpq, by decide, fun H16 v v0 v1 dr16 f16 => ?_⟩
  have st16 := stB.take pne dr16 f16
  have hB16 := f16 _ _ hB' oB.o1
  obtain ⟨x, hx, px, gx⟩ : ∃ x : V, atI bads v = some x ∧ plainV x = true ∧ ¬ goodP ps.length x = true := by
    subst hbl
    have : v = 0 ∨ v = 1 ∨ v = 2 ∨ v = 3 ∨ v = 4 := by omega
    rcases this with rfl | rfl | rfl | rfl | rfl
    · exact ⟨_, rfl, rfl, fun z => by obtain ⟨i, e, _⟩ := of_good z; injection e with e; omega⟩
    · exact ⟨_, rfl, rfl, fun z => by obtain ⟨i, e, hi⟩ := of_good z; injection e with e; omega⟩
    · refine ⟨_, rfl, rfl, fun z => ?_⟩
      obtain ⟨i, e, hi⟩ := of_good z
      injection e with e
      have h2 : (1 : Int) * 10 ^ (28 : Int).toNat = 10000000000000000000000000000 := by decide
      have h3 : (10 : Int) ^ (28 : Int).toNat = 10000000000000000000000000000 := by decide
      omega
    · exact ⟨_, rfl, rfl, fun z => by cases z⟩
    · exact ⟨_, rfl, rfl, fun z => by cases z⟩
  refine ⟨B, _, _, _, rfl, rfl, SqL.of hB16, hx, ?_⟩
  refine ⟨_, rfl, _, rfl, _, rfl, p, q, _, rfl, st16.dr, hpq, by decide, fun H17 v v0 v1 dr17 f17 => ?_⟩
  have st17 := st16.take pne dr17 f17
  obtain ⟨mv, rfl⟩ := Int.eq_ofNat_of_zero_le v0
  refine ⟨_, _, rfl, rfl, fun z dxz hz hdxz hnez => ⟨z, dxz, 1 + mv, rfl, upd_same, by omega, by omega, fun H18 l9 d9 hl9 hd9 _ hp18 f18 => ⟨rfl, ?_⟩⟩⟩
  obtain ⟨s18, hl9, hd9⟩ := mkFacts hz hdxz hl9 hd9 f18
  have st18 := st17.news s18
  have ol9 := st17.off hl9
  have od9 := st17.off hd9
  refine ⟨a, l, d, z, l9, d9, n, 1 + mv, ps, x, rfl, st18.pool, rops.ok, by omega, px, gx, hp18, by omega, by omega, ol9.o3.symm, od9.o9.symm, ⟨_, rfl, iteN (by decide) ?_⟩⟩
  -- doubled, and the pool as it was
  refine ⟨_, rfl, n, rfl, n2, by omega, fun H19 s19 => ⟨_, rfl, iteP rfl ?_⟩⟩
  have st19 := st18.news s19
  obtain ⟨dx19, l', ys, q1, q2, q3, q4, q5⟩ := listFacts T st19.pool (by omega)
  exact ⟨_, rfl, a, dx19, _, l', ys, rfl, q1, q2, q3, q4, fun g H20 hg s20 hg20 => ⟨_, rfl, eqL (q5 g H20 s20 hg20) (st19.parts.news s20) (k H20)⟩⟩
end
end My

namespace My
open PySem L2
/-- an error of the class at S is what «except S» names -/
theorem exm_own {K : PySem.W.Frag} {S : Addr} (h1 : PySem.W.subIn K (.ref S) (.type "BaseException") = some true) (h2 : PySem.W.isClsIn K S = true) (h3 : PySem.W.typeIn K (.ref S) = some (.type "type")) (h4 : PySem.W.subIn K (.ref S) (.ref S) = some true) :
    PySem.W.exmOne K (.ref S) (.ref S) = some true := by
  have e1 : (PySem.W.subIn K (.ref S) (.type "BaseException") == some true) = true := by rw [h1] <;> rfl
  have e2 : ((PySem.W.clsIn K S).isSome && PySem.W.typeIn K (.ref S) == some (.type "type")) = true := by
    have h2' : (PySem.W.clsIn K S).isSome = true := h2
    rw [h2', h3] <;> rfl
  show (if (PySem.W.subIn K (.ref S) (.type "BaseException") == some true) = true then (if ((PySem.W.clsIn K S).isSome && PySem.W.typeIn K (.ref S) == some (.type "type")) = true then PySem.W.subIn K (.ref S) (.ref S) else none) else none) = some true
  rw [if_pos e1, if_pos e2]
  exact h4
theorem tup_kit {K : PySem.W.Frag} {a n : Nat} {od : Option Addr} {sl : Array (Option Value)} {its : Array Value} {xs : List V} (lk : K.lookup a = some ⟨.type "tuple", od, .seq its n, sl⟩) (z : its.size ≤ sizeLine) (v : Vals xs its.toList) : ∀ H, SqT K H a xs :=
  fun H => .inr ⟨_, its, n, lk, rfl, rfl, z, v⟩
theorem mk_op_word {K : PySem.W.Frag} {f : Addr} {od an : Option Addr} {sl : Array (Option Value)} {oc kV dc pm cd ct : Value} (l : K.lookup f = some ⟨oc, od, .func (PySem.W.fnOf "op_word" "op_word" (defArgs s_op_word) (defBody s_op_word) (defScope s_op_word) .none kV dc pm an cd ct), sl⟩) (c : PySem.W.codeIn K cd "op_word" = true) (k : PySem.W.keepIn K (.ref f) = true) :
    ∃ fd : FuncData, Fun K "op_word" "op_word" s_op_word f fd ∧ Binds K fd ["name", "one", "other", "width"] [] := ⟨_, fun_mk (st := s_op_word) l c k, (fun_mk (st := s_op_word) l c k).binds (ps := ["name", "one", "other", "width"]) fun _ _ _ _ _ _ us hl => match us, hl with | [_, _, _, _], _ => rfl⟩
theorem mk_shortened {K : PySem.W.Frag} {f : Addr} {od an : Option Addr} {sl : Array (Option Value)} {oc kV dc pm cd ct : Value} (l : K.lookup f = some ⟨oc, od, .func (PySem.W.fnOf "shortened" "shortened" (defArgs s_shortened) (defBody s_shortened) (defScope s_shortened) .none kV dc pm an cd ct), sl⟩) (c : PySem.W.codeIn K cd "shortened" = true) (k : PySem.W.keepIn K (.ref f) = true) :
    ∃ fd : FuncData, Fun K "shortened" "shortened" s_shortened f fd ∧ Binds K fd ["name", "first", "second", "equal", "most"] [] := ⟨_, fun_mk (st := s_shortened) l c k, (fun_mk (st := s_shortened) l c k).binds (ps := ["name", "first", "second", "equal", "most"]) fun _ _ _ _ _ _ us hl => match us, hl with | [_, _, _, _, _], _ => rfl⟩
theorem mk_shortened_and {K : PySem.W.Frag} {f : Addr} {od an : Option Addr} {sl : Array (Option Value)} {oc kV dc pm cd ct : Value} (l : K.lookup f = some ⟨oc, od, .func (PySem.W.fnOf "shortened_and" "shortened_and" (defArgs s_shortened_and) (defBody s_shortened_and) (defScope s_shortened_and) .none kV dc pm an cd ct), sl⟩) (c : PySem.W.codeIn K cd "shortened_and" = true) (k : PySem.W.keepIn K (.ref f) = true) :
    ∃ fd : FuncData, Fun K "shortened_and" "shortened_and" s_shortened_and f fd ∧ Binds K fd ["first", "second", "equal", "most"] [] := ⟨_, fun_mk (st := s_shortened_and) l c k, (fun_mk (st := s_shortened_and) l c k).binds (ps := ["first", "second", "equal", "most"]) fun _ _ _ _ _ _ us hl => match us, hl with | [_, _, _, _], _ => rfl⟩
theorem mk_shortened_twice {K : PySem.W.Frag} {f : Addr} {od an : Option Addr} {sl : Array (Option Value)} {oc kV dc pm cd ct : Value} (l : K.lookup f = some ⟨oc, od, .func (PySem.W.fnOf "shortened_twice" "shortened_twice" (defArgs s_shortened_twice) (defBody s_shortened_twice) (defScope s_shortened_twice) .none kV dc pm an cd ct), sl⟩) (c : PySem.W.codeIn K cd "shortened_twice" = true) (k : PySem.W.keepIn K (.ref f) = true) :
    ∃ fd : FuncData, Fun K "shortened_twice" "shortened_twice" s_shortened_twice f fd ∧ Binds K fd ["name"] [] := ⟨_, fun_mk (st := s_shortened_twice) l c k, (fun_mk (st := s_shortened_twice) l c k).binds (ps := ["name"]) fun _ _ _ _ _ _ us hl => match us, hl with | [_], _ => rfl⟩
theorem mk_is_int {K : PySem.W.Frag} {f : Addr} {od an : Option Addr} {sl : Array (Option Value)} {oc kV dc pm cd ct : Value} (l : K.lookup f = some ⟨oc, od, .func (PySem.W.fnOf "is_int" "is_int" (defArgs s_is_int) (defBody s_is_int) (defScope s_is_int) .none kV dc pm an cd ct), sl⟩) (c : PySem.W.codeIn K cd "is_int" = true) (k : PySem.W.keepIn K (.ref f) = true) :
    ∃ fd : FuncData, Fun K "is_int" "is_int" s_is_int f fd ∧ Binds K fd ["value"] [] := ⟨_, fun_mk (st := s_is_int) l c k, (fun_mk (st := s_is_int) l c k).binds (ps := ["value"]) fun _ _ _ _ _ _ us hl => match us, hl with | [_], _ => rfl⟩
theorem mk_is_row {K : PySem.W.Frag} {f : Addr} {od an : Option Addr} {sl : Array (Option Value)} {oc kV dc pm cd ct : Value} (l : K.lookup f = some ⟨oc, od, .func (PySem.W.fnOf "is_row" "is_row" (defArgs s_is_row) (defBody s_is_row) (defScope s_is_row) .none kV dc pm an cd ct), sl⟩) (c : PySem.W.codeIn K cd "is_row" = true) (k : PySem.W.keepIn K (.ref f) = true) :
    ∃ fd : FuncData, Fun K "is_row" "is_row" s_is_row f fd ∧ Binds K fd ["value"] [] := ⟨_, fun_mk (st := s_is_row) l c k, (fun_mk (st := s_is_row) l c k).binds (ps := ["value"]) fun _ _ _ _ _ _ us hl => match us, hl with | [_], _ => rfl⟩
theorem mk_check_int {K : PySem.W.Frag} {f : Addr} {od an : Option Addr} {sl : Array (Option Value)} {oc kV dc pm cd ct : Value} (l : K.lookup f = some ⟨oc, od, .func (PySem.W.fnOf "check_int" "check_int" (defArgs s_check_int) (defBody s_check_int) (defScope s_check_int) .none kV dc pm an cd ct), sl⟩) (c : PySem.W.codeIn K cd "check_int" = true) (k : PySem.W.keepIn K (.ref f) = true) :
    ∃ fd : FuncData, Fun K "check_int" "check_int" s_check_int f fd ∧ Binds K fd ["value", "low", "high", "name"] [] := ⟨_, fun_mk (st := s_check_int) l c k, (fun_mk (st := s_check_int) l c k).binds (ps := ["value", "low", "high", "name"]) fun _ _ _ _ _ _ us hl => match us, hl with | [_, _, _, _], _ => rfl⟩
theorem mk_ones {K : PySem.W.Frag} {f : Addr} {od an : Option Addr} {sl : Array (Option Value)} {oc kV dc pm cd ct : Value} (l : K.lookup f = some ⟨oc, od, .func (PySem.W.fnOf "ones" "ones" (defArgs s_ones) (defBody s_ones) (defScope s_ones) .none kV dc pm an cd ct), sl⟩) (c : PySem.W.codeIn K cd "ones" = true) (k : PySem.W.keepIn K (.ref f) = true) :
    ∃ fd : FuncData, Fun K "ones" "ones" s_ones f fd ∧ Binds K fd ["width"] [] := ⟨_, fun_mk (st := s_ones) l c k, (fun_mk (st := s_ones) l c k).binds (ps := ["width"]) fun _ _ _ _ _ _ us hl => match us, hl with | [_], _ => rfl⟩
theorem mk_carried {K : PySem.W.Frag} {f : Addr} {od an : Option Addr} {sl : Array (Option Value)} {oc kV dc pm cd ct : Value} (l : K.lookup f = some ⟨oc, od, .func (PySem.W.fnOf "carried" "carried" (defArgs s_carried) (defBody s_carried) (defScope s_carried) .none kV dc pm an cd ct), sl⟩) (c : PySem.W.codeIn K cd "carried" = true) (k : PySem.W.keepIn K (.ref f) = true) :
    ∃ fd : FuncData, Fun K "carried" "carried" s_carried f fd ∧ Binds K fd ["pool", "part", "other"] [] := ⟨_, fun_mk (st := s_carried) l c k, (fun_mk (st := s_carried) l c k).binds (ps := ["pool", "part", "other"]) fun _ _ _ _ _ _ us hl => match us, hl with | [_, _, _], _ => rfl⟩
theorem mk_p_init {K : PySem.W.Frag} {f : Addr} {od an : Option Addr} {sl : Array (Option Value)} {oc kV dc pm cd ct : Value} (l : K.lookup f = some ⟨oc, od, .func (PySem.W.fnOf "__init__" "Pool.__init__" (defArgs s_p_init) (defBody s_p_init) (defScope s_p_init) .none kV dc pm an cd ct), sl⟩) (c : PySem.W.codeIn K cd "Pool.__init__" = true) (k : PySem.W.keepIn K (.ref f) = true) :
    ∃ fd : FuncData, Fun K "__init__" "Pool.__init__" s_p_init f fd ∧ Binds K fd ["self", "width"] [] := ⟨_, fun_mk (st := s_p_init) l c k, (fun_mk (st := s_p_init) l c k).binds (ps := ["self", "width"]) fun _ _ _ _ _ _ us hl => match us, hl with | [_, _], _ => rfl⟩
theorem mk_p_len {K : PySem.W.Frag} {f : Addr} {od an : Option Addr} {sl : Array (Option Value)} {oc kV dc pm cd ct : Value} (l : K.lookup f = some ⟨oc, od, .func (PySem.W.fnOf "__len__" "Pool.__len__" (defArgs s_p_len) (defBody s_p_len) (defScope s_p_len) .none kV dc pm an cd ct), sl⟩) (c : PySem.W.codeIn K cd "Pool.__len__" = true) (k : PySem.W.keepIn K (.ref f) = true) :
    ∃ fd : FuncData, Fun K "__len__" "Pool.__len__" s_p_len f fd ∧ Binds K fd ["self"] [] := ⟨_, fun_mk (st := s_p_len) l c k, (fun_mk (st := s_p_len) l c k).binds (ps := ["self"]) fun _ _ _ _ _ _ us hl => match us, hl with | [_], _ => rfl⟩
theorem mk_p_iter {K : PySem.W.Frag} {f : Addr} {od an : Option Addr} {sl : Array (Option Value)} {oc kV dc pm cd ct : Value} (l : K.lookup f = some ⟨oc, od, .func (PySem.W.fnOf "__iter__" "Pool.__iter__" (defArgs s_p_iter) (defBody s_p_iter) (defScope s_p_iter) .none kV dc pm an cd ct), sl⟩) (c : PySem.W.codeIn K cd "Pool.__iter__" = true) (k : PySem.W.keepIn K (.ref f) = true) :
    ∃ fd : FuncData, Fun K "__iter__" "Pool.__iter__" s_p_iter f fd ∧ Binds K fd ["self"] [] := ⟨_, fun_mk (st := s_p_iter) l c k, (fun_mk (st := s_p_iter) l c k).binds (ps := ["self"]) fun _ _ _ _ _ _ us hl => match us, hl with | [_], _ => rfl⟩
theorem mk_p_check_part {K : PySem.W.Frag} {f : Addr} {od an : Option Addr} {sl : Array (Option Value)} {oc kV dc pm cd ct : Value} (l : K.lookup f = some ⟨oc, od, .func (PySem.W.fnOf "check_part" "Pool.check_part" (defArgs s_p_check_part) (defBody s_p_check_part) (defScope s_p_check_part) .none kV dc pm an cd ct), sl⟩) (c : PySem.W.codeIn K cd "Pool.check_part" = true) (k : PySem.W.keepIn K (.ref f) = true) :
    ∃ fd : FuncData, Fun K "check_part" "Pool.check_part" s_p_check_part f fd ∧ Binds K fd ["self", "number"] [] := ⟨_, fun_mk (st := s_p_check_part) l c k, (fun_mk (st := s_p_check_part) l c k).binds (ps := ["self", "number"]) fun _ _ _ _ _ _ us hl => match us, hl with | [_, _], _ => rfl⟩
theorem mk_p_check_parts {K : PySem.W.Frag} {f : Addr} {od an : Option Addr} {sl : Array (Option Value)} {oc kV dc pm cd ct : Value} (l : K.lookup f = some ⟨oc, od, .func (PySem.W.fnOf "check_parts" "Pool.check_parts" (defArgs s_p_check_parts) (defBody s_p_check_parts) (defScope s_p_check_parts) .none kV dc pm an cd ct), sl⟩) (c : PySem.W.codeIn K cd "Pool.check_parts" = true) (k : PySem.W.keepIn K (.ref f) = true) :
    ∃ fd : FuncData, Fun K "check_parts" "Pool.check_parts" s_p_check_parts f fd ∧ Binds K fd ["self", "numbers"] [] := ⟨_, fun_mk (st := s_p_check_parts) l c k, (fun_mk (st := s_p_check_parts) l c k).binds (ps := ["self", "numbers"]) fun _ _ _ _ _ _ us hl => match us, hl with | [_, _], _ => rfl⟩
theorem mk_p_num {K : PySem.W.Frag} {f : Addr} {od an : Option Addr} {sl : Array (Option Value)} {oc kV dc pm cd ct : Value} (l : K.lookup f = some ⟨oc, od, .func (PySem.W.fnOf "num" "Pool.num" (defArgs s_p_num) (defBody s_p_num) (defScope s_p_num) .none kV dc pm an cd ct), sl⟩) (c : PySem.W.codeIn K cd "Pool.num" = true) (k : PySem.W.keepIn K (.ref f) = true) :
    ∃ fd : FuncData, Fun K "num" "Pool.num" s_p_num f fd ∧ Binds K fd ["self", "value"] [] := ⟨_, fun_mk (st := s_p_num) l c k, (fun_mk (st := s_p_num) l c k).binds (ps := ["self", "value"]) fun _ _ _ _ _ _ us hl => match us, hl with | [_, _], _ => rfl⟩
theorem mk_p_unknown {K : PySem.W.Frag} {f : Addr} {od an : Option Addr} {sl : Array (Option Value)} {oc kV dc pm cd ct : Value} (l : K.lookup f = some ⟨oc, od, .func (PySem.W.fnOf "unknown" "Pool.unknown" (defArgs s_p_unknown) (defBody s_p_unknown) (defScope s_p_unknown) .none kV dc pm an cd ct), sl⟩) (c : PySem.W.codeIn K cd "Pool.unknown" = true) (k : PySem.W.keepIn K (.ref f) = true) :
    ∃ fd : FuncData, Fun K "unknown" "Pool.unknown" s_p_unknown f fd ∧ Binds K fd ["self", "number"] [] := ⟨_, fun_mk (st := s_p_unknown) l c k, (fun_mk (st := s_p_unknown) l c k).binds (ps := ["self", "number"]) fun _ _ _ _ _ _ us hl => match us, hl with | [_, _], _ => rfl⟩
theorem mk_p_apply {K : PySem.W.Frag} {f : Addr} {od an : Option Addr} {sl : Array (Option Value)} {oc kV dc pm cd ct : Value} (l : K.lookup f = some ⟨oc, od, .func (PySem.W.fnOf "apply" "Pool.apply" (defArgs s_p_apply) (defBody s_p_apply) (defScope s_p_apply) .none kV dc pm an cd ct), sl⟩) (c : PySem.W.codeIn K cd "Pool.apply" = true) (k : PySem.W.keepIn K (.ref f) = true) :
    ∃ fd : FuncData, Fun K "apply" "Pool.apply" s_p_apply f fd ∧ Binds K fd ["self", "name", "one", "other"] [] := ⟨_, fun_mk (st := s_p_apply) l c k, (fun_mk (st := s_p_apply) l c k).binds (ps := ["self", "name", "one", "other"]) fun _ _ _ _ _ _ us hl => match us, hl with | [_, _, _, _], _ => rfl⟩
theorem mk_p_part {K : PySem.W.Frag} {f : Addr} {od an : Option Addr} {sl : Array (Option Value)} {oc kV dc pm cd ct : Value} (l : K.lookup f = some ⟨oc, od, .func (PySem.W.fnOf "part" "Pool.part" (defArgs s_p_part) (defBody s_p_part) (defScope s_p_part) .none kV dc pm an cd ct), sl⟩) (c : PySem.W.codeIn K cd "Pool.part" = true) (k : PySem.W.keepIn K (.ref f) = true) :
    ∃ fd : FuncData, Fun K "part" "Pool.part" s_p_part f fd ∧ Binds K fd ["self", "number"] [] := ⟨_, fun_mk (st := s_p_part) l c k, (fun_mk (st := s_p_part) l c k).binds (ps := ["self", "number"]) fun _ _ _ _ _ _ us hl => match us, hl with | [_, _], _ => rfl⟩
theorem mk_p_value {K : PySem.W.Frag} {f : Addr} {od an : Option Addr} {sl : Array (Option Value)} {oc kV dc pm cd ct : Value} (l : K.lookup f = some ⟨oc, od, .func (PySem.W.fnOf "value" "Pool.value" (defArgs s_p_value) (defBody s_p_value) (defScope s_p_value) .none kV dc pm an cd ct), sl⟩) (c : PySem.W.codeIn K cd "Pool.value" = true) (k : PySem.W.keepIn K (.ref f) = true) :
    ∃ fd : FuncData, Fun K "value" "Pool.value" s_p_value f fd ∧ Binds K fd ["self", "number", "words"] [] := ⟨_, fun_mk (st := s_p_value) l c k, (fun_mk (st := s_p_value) l c k).binds (ps := ["self", "number", "words"]) fun _ _ _ _ _ _ us hl => match us, hl with | [_, _, _], _ => rfl⟩
theorem mk_p_reached {K : PySem.W.Frag} {f : Addr} {od an : Option Addr} {sl : Array (Option Value)} {oc kV dc pm cd ct : Value} (l : K.lookup f = some ⟨oc, od, .func (PySem.W.fnOf "reached" "Pool.reached" (defArgs s_p_reached) (defBody s_p_reached) (defScope s_p_reached) .none kV dc pm an cd ct), sl⟩) (c : PySem.W.codeIn K cd "Pool.reached" = true) (k : PySem.W.keepIn K (.ref f) = true) :
    ∃ fd : FuncData, Fun K "reached" "Pool.reached" s_p_reached f fd ∧ Binds K fd ["self", "number"] [] := ⟨_, fun_mk (st := s_p_reached) l c k, (fun_mk (st := s_p_reached) l c k).binds (ps := ["self", "number"]) fun _ _ _ _ _ _ us hl => match us, hl with | [_, _], _ => rfl⟩
theorem mk_p_reached_by {K : PySem.W.Frag} {f : Addr} {od an : Option Addr} {sl : Array (Option Value)} {oc kV dc pm cd ct : Value} (l : K.lookup f = some ⟨oc, od, .func (PySem.W.fnOf "reached_by" "Pool.reached_by" (defArgs s_p_reached_by) (defBody s_p_reached_by) (defScope s_p_reached_by) .none kV dc pm an cd ct), sl⟩) (c : PySem.W.codeIn K cd "Pool.reached_by" = true) (k : PySem.W.keepIn K (.ref f) = true) :
    ∃ fd : FuncData, Fun K "reached_by" "Pool.reached_by" s_p_reached_by f fd ∧ Binds K fd ["self", "numbers"] [] := ⟨_, fun_mk (st := s_p_reached_by) l c k, (fun_mk (st := s_p_reached_by) l c k).binds (ps := ["self", "numbers"]) fun _ _ _ _ _ _ us hl => match us, hl with | [_, _], _ => rfl⟩
theorem mk_p_made {K : PySem.W.Frag} {f : Addr} {od an : Option Addr} {sl : Array (Option Value)} {oc kV dc pm cd ct : Value} (l : K.lookup f = some ⟨oc, od, .func (PySem.W.fnOf "_made" "Pool._made" (defArgs s_p_made) (defBody s_p_made) (defScope s_p_made) .none kV dc pm an cd ct), sl⟩) (c : PySem.W.codeIn K cd "Pool._made" = true) (k : PySem.W.keepIn K (.ref f) = true) :
    ∃ fd : FuncData, Fun K "_made" "Pool._made" s_p_made f fd ∧ Binds K fd ["self", "part"] [] := ⟨_, fun_mk (st := s_p_made) l c k, (fun_mk (st := s_p_made) l c k).binds (ps := ["self", "part"]) fun _ _ _ _ _ _ us hl => match us, hl with | [_, _], _ => rfl⟩
theorem mk_p_word {K : PySem.W.Frag} {f : Addr} {od an : Option Addr} {sl : Array (Option Value)} {oc kV dc pm cd ct : Value} (l : K.lookup f = some ⟨oc, od, .func (PySem.W.fnOf "_word" "Pool._word" (defArgs s_p_word) (defBody s_p_word) (defScope s_p_word) .none kV dc pm an cd ct), sl⟩) (c : PySem.W.codeIn K cd "Pool._word" = true) (k : PySem.W.keepIn K (.ref f) = true) :
    ∃ fd : FuncData, Fun K "_word" "Pool._word" s_p_word f fd ∧ Binds K fd ["self", "number"] [] := ⟨_, fun_mk (st := s_p_word) l c k, (fun_mk (st := s_p_word) l c k).binds (ps := ["self", "number"]) fun _ _ _ _ _ _ us hl => match us, hl with | [_, _], _ => rfl⟩
theorem mk_p_gets {K : PySem.W.Frag} {f : Addr} {od an : Option Addr} {sl : Array (Option Value)} {oc kV dc pm cd ct : Value} (l : K.lookup f = some ⟨oc, od, .func (PySem.W.fnOf "_gets" "Pool._gets" (defArgs s_p_gets) (defBody s_p_gets) (defScope s_p_gets) .none kV dc pm an cd ct), sl⟩) (c : PySem.W.codeIn K cd "Pool._gets" = true) (k : PySem.W.keepIn K (.ref f) = true) :
    ∃ fd : FuncData, Fun K "_gets" "Pool._gets" s_p_gets f fd ∧ Binds K fd ["self", "numbers"] [] := ⟨_, fun_mk (st := s_p_gets) l c k, (fun_mk (st := s_p_gets) l c k).binds (ps := ["self", "numbers"]) fun _ _ _ _ _ _ us hl => match us, hl with | [_, _], _ => rfl⟩
theorem mk_law_draws {K : PySem.W.Frag} {f : Addr} {od an : Option Addr} {sl : Array (Option Value)} {oc kV dc pm cd ct : Value} (l : K.lookup f = some ⟨oc, od, .func (PySem.W.fnOf "_law_draws" "_law_draws" (defArgs s_law_draws) (defBody s_law_draws) (defScope s_law_draws) .none kV dc pm an cd ct), sl⟩) (c : PySem.W.codeIn K cd "_law_draws" = true) (k : PySem.W.keepIn K (.ref f) = true) :
    ∃ fd : FuncData, Fun K "_law_draws" "_law_draws" s_law_draws f fd ∧ Binds K fd ["_law_script"] [] := ⟨_, fun_mk (st := s_law_draws) l c k, (fun_mk (st := s_law_draws) l c k).binds (ps := ["_law_script"]) fun _ _ _ _ _ _ us hl => match us, hl with | [_], _ => rfl⟩
theorem mk_law_take {K : PySem.W.Frag} {f : Addr} {od an : Option Addr} {sl : Array (Option Value)} {oc kV dc pm cd ct : Value} (l : K.lookup f = some ⟨oc, od, .func (PySem.W.fnOf "_law_take" "_law_take" (defArgs s_law_take) (defBody s_law_take) (defScope s_law_take) .none kV dc pm an cd ct), sl⟩) (c : PySem.W.codeIn K cd "_law_take" = true) (k : PySem.W.keepIn K (.ref f) = true) :
    ∃ fd : FuncData, Fun K "_law_take" "_law_take" s_law_take f fd ∧ Binds K fd ["_law_draws_here", "_law_many"] [] := ⟨_, fun_mk (st := s_law_take) l c k, (fun_mk (st := s_law_take) l c k).binds (ps := ["_law_draws_here", "_law_many"]) fun _ _ _ _ _ _ us hl => match us, hl with | [_, _], _ => rfl⟩
theorem mk_law_word {K : PySem.W.Frag} {f : Addr} {od an : Option Addr} {sl : Array (Option Value)} {oc kV dc pm cd ct : Value} (l : K.lookup f = some ⟨oc, od, .func (PySem.W.fnOf "_law_word" "_law_word" (defArgs s_law_word) (defBody s_law_word) (defScope s_law_word) .none kV dc pm an cd ct), sl⟩) (c : PySem.W.codeIn K cd "_law_word" = true) (k : PySem.W.keepIn K (.ref f) = true) :
    ∃ fd : FuncData, Fun K "_law_word" "_law_word" s_law_word f fd ∧ Binds K fd ["_law_draws_here", "_law_width"] [] := ⟨_, fun_mk (st := s_law_word) l c k, (fun_mk (st := s_law_word) l c k).binds (ps := ["_law_draws_here", "_law_width"]) fun _ _ _ _ _ _ us hl => match us, hl with | [_, _], _ => rfl⟩
theorem mk_law_is_int {K : PySem.W.Frag} {f : Addr} {od an : Option Addr} {sl : Array (Option Value)} {oc kV dc pm cd ct : Value} (l : K.lookup f = some ⟨oc, od, .func (PySem.W.fnOf "_law_is_int" "_law_is_int" (defArgs s_law_is_int) (defBody s_law_is_int) (defScope s_law_is_int) .none kV dc pm an cd ct), sl⟩) (c : PySem.W.codeIn K cd "_law_is_int" = true) (k : PySem.W.keepIn K (.ref f) = true) :
    ∃ fd : FuncData, Fun K "_law_is_int" "_law_is_int" s_law_is_int f fd ∧ Binds K fd ["_law_thing"] [] := ⟨_, fun_mk (st := s_law_is_int) l c k, (fun_mk (st := s_law_is_int) l c k).binds (ps := ["_law_thing"]) fun _ _ _ _ _ _ us hl => match us, hl with | [_], _ => rfl⟩
theorem mk_law_op {K : PySem.W.Frag} {f : Addr} {od an : Option Addr} {sl : Array (Option Value)} {oc kV dc pm cd ct : Value} (l : K.lookup f = some ⟨oc, od, .func (PySem.W.fnOf "_law_op" "_law_op" (defArgs s_law_op) (defBody s_law_op) (defScope s_law_op) .none kV dc pm an cd ct), sl⟩) (c : PySem.W.codeIn K cd "_law_op" = true) (k : PySem.W.keepIn K (.ref f) = true) :
    ∃ fd : FuncData, Fun K "_law_op" "_law_op" s_law_op f fd ∧ Binds K fd ["_law_name", "_law_one", "_law_other", "_law_width"] [] := ⟨_, fun_mk (st := s_law_op) l c k, (fun_mk (st := s_law_op) l c k).binds (ps := ["_law_name", "_law_one", "_law_other", "_law_width"]) fun _ _ _ _ _ _ us hl => match us, hl with | [_, _, _, _], _ => rfl⟩
theorem mk_law_ops {K : PySem.W.Frag} {f : Addr} {od an : Option Addr} {sl : Array (Option Value)} {oc kV dc pm cd ct : Value} (l : K.lookup f = some ⟨oc, od, .func (PySem.W.fnOf "_law_ops" "_law_ops" (defArgs s_law_ops) (defBody s_law_ops) (defScope s_law_ops) .none kV dc pm an cd ct), sl⟩) (c : PySem.W.codeIn K cd "_law_ops" = true) (k : PySem.W.keepIn K (.ref f) = true) :
    ∃ fd : FuncData, Fun K "_law_ops" "_law_ops" s_law_ops f fd ∧ Binds K fd [] [] := ⟨_, fun_mk (st := s_law_ops) l c k, (fun_mk (st := s_law_ops) l c k).binds (ps := []) fun _ _ _ _ _ _ us hl => match us, hl with | [], _ => rfl⟩
theorem mk_law_term_rows {K : PySem.W.Frag} {f : Addr} {od an : Option Addr} {sl : Array (Option Value)} {oc kV dc pm cd ct : Value} (l : K.lookup f = some ⟨oc, od, .func (PySem.W.fnOf "_law_term_rows" "_law_term_rows" (defArgs s_law_term_rows) (defBody s_law_term_rows) (defScope s_law_term_rows) .none kV dc pm an cd ct), sl⟩) (c : PySem.W.codeIn K cd "_law_term_rows" = true) (k : PySem.W.keepIn K (.ref f) = true) :
    ∃ fd : FuncData, Fun K "_law_term_rows" "_law_term_rows" s_law_term_rows f fd ∧ Binds K fd ["_law_draws_here", "_law_unknowns", "_law_width", "_law_many", "_law_plain"] [] := ⟨_, fun_mk (st := s_law_term_rows) l c k, (fun_mk (st := s_law_term_rows) l c k).binds (ps := ["_law_draws_here", "_law_unknowns", "_law_width", "_law_many", "_law_plain"]) fun _ _ _ _ _ _ us hl => match us, hl with | [_, _, _, _, _], _ => rfl⟩
theorem mk_law_row_words {K : PySem.W.Frag} {f : Addr} {od an : Option Addr} {sl : Array (Option Value)} {oc kV dc pm cd ct : Value} (l : K.lookup f = some ⟨oc, od, .func (PySem.W.fnOf "_law_row_words" "_law_row_words" (defArgs s_law_row_words) (defBody s_law_row_words) (defScope s_law_row_words) .none kV dc pm an cd ct), sl⟩) (c : PySem.W.codeIn K cd "_law_row_words" = true) (k : PySem.W.keepIn K (.ref f) = true) :
    ∃ fd : FuncData, Fun K "_law_row_words" "_law_row_words" s_law_row_words f fd ∧ Binds K fd ["_law_rows", "_law_words", "_law_width"] [] := ⟨_, fun_mk (st := s_law_row_words) l c k, (fun_mk (st := s_law_row_words) l c k).binds (ps := ["_law_rows", "_law_words", "_law_width"]) fun _ _ _ _ _ _ us hl => match us, hl with | [_, _, _], _ => rfl⟩
theorem mk_law_all_rows {K : PySem.W.Frag} {f : Addr} {od an : Option Addr} {sl : Array (Option Value)} {oc kV dc pm cd ct : Value} (l : K.lookup f = some ⟨oc, od, .func (PySem.W.fnOf "_law_all_rows" "_law_all_rows" (defArgs s_law_all_rows) (defBody s_law_all_rows) (defScope s_law_all_rows) .none kV dc pm an cd ct), sl⟩) (c : PySem.W.codeIn K cd "_law_all_rows" = true) (k : PySem.W.keepIn K (.ref f) = true) :
    ∃ fd : FuncData, Fun K "_law_all_rows" "_law_all_rows" s_law_all_rows f fd ∧ Binds K fd ["_law_limits"] [] := ⟨_, fun_mk (st := s_law_all_rows) l c k, (fun_mk (st := s_law_all_rows) l c k).binds (ps := ["_law_limits"]) fun _ _ _ _ _ _ us hl => match us, hl with | [_], _ => rfl⟩
theorem mk_law_keep {K : PySem.W.Frag} {f : Addr} {od an : Option Addr} {sl : Array (Option Value)} {oc kV dc pm cd ct : Value} (l : K.lookup f = some ⟨oc, od, .func (PySem.W.fnOf "_law_keep" "_law_keep" (defArgs s_law_keep) (defBody s_law_keep) (defScope s_law_keep) .none kV dc pm an cd ct), sl⟩) (c : PySem.W.codeIn K cd "_law_keep" = true) (k : PySem.W.keepIn K (.ref f) = true) :
    ∃ fd : FuncData, Fun K "_law_keep" "_law_keep" s_law_keep f fd ∧ Binds K fd ["_law_parts", "_law_part_here"] [] := ⟨_, fun_mk (st := s_law_keep) l c k, (fun_mk (st := s_law_keep) l c k).binds (ps := ["_law_parts", "_law_part_here"]) fun _ _ _ _ _ _ us hl => match us, hl with | [_, _], _ => rfl⟩
theorem mk_law_short {K : PySem.W.Frag} {f : Addr} {od an : Option Addr} {sl : Array (Option Value)} {oc kV dc pm cd ct : Value} (l : K.lookup f = some ⟨oc, od, .func (PySem.W.fnOf "_law_short" "_law_short" (defArgs s_law_short) (defBody s_law_short) (defScope s_law_short) .none kV dc pm an cd ct), sl⟩) (c : PySem.W.codeIn K cd "_law_short" = true) (k : PySem.W.keepIn K (.ref f) = true) :
    ∃ fd : FuncData, Fun K "_law_short" "_law_short" s_law_short f fd ∧ Binds K fd ["_law_parts", "_law_width", "_law_name", "_law_one", "_law_other"] [] := ⟨_, fun_mk (st := s_law_short) l c k, (fun_mk (st := s_law_short) l c k).binds (ps := ["_law_parts", "_law_width", "_law_name", "_law_one", "_law_other"]) fun _ _ _ _ _ _ us hl => match us, hl with | [_, _, _, _, _], _ => rfl⟩
theorem mk_law_apply {K : PySem.W.Frag} {f : Addr} {od an : Option Addr} {sl : Array (Option Value)} {oc kV dc pm cd ct : Value} (l : K.lookup f = some ⟨oc, od, .func (PySem.W.fnOf "_law_apply" "_law_apply" (defArgs s_law_apply) (defBody s_law_apply) (defScope s_law_apply) .none kV dc pm an cd ct), sl⟩) (c : PySem.W.codeIn K cd "_law_apply" = true) (k : PySem.W.keepIn K (.ref f) = true) :
    ∃ fd : FuncData, Fun K "_law_apply" "_law_apply" s_law_apply f fd ∧ Binds K fd ["_law_parts", "_law_width", "_law_name", "_law_one", "_law_other"] [] := ⟨_, fun_mk (st := s_law_apply) l c k, (fun_mk (st := s_law_apply) l c k).binds (ps := ["_law_parts", "_law_width", "_law_name", "_law_one", "_law_other"]) fun _ _ _ _ _ _ us hl => match us, hl with | [_, _, _, _, _], _ => rfl⟩
theorem mk_law_part {K : PySem.W.Frag} {f : Addr} {od an : Option Addr} {sl : Array (Option Value)} {oc kV dc pm cd ct : Value} (l : K.lookup f = some ⟨oc, od, .func (PySem.W.fnOf "_law_part" "_law_part" (defArgs s_law_part) (defBody s_law_part) (defScope s_law_part) .none kV dc pm an cd ct), sl⟩) (c : PySem.W.codeIn K cd "_law_part" = true) (k : PySem.W.keepIn K (.ref f) = true) :
    ∃ fd : FuncData, Fun K "_law_part" "_law_part" s_law_part f fd ∧ Binds K fd ["_law_parts", "_law_width", "_law_row", "_law_places"] [] := ⟨_, fun_mk (st := s_law_part) l c k, (fun_mk (st := s_law_part) l c k).binds (ps := ["_law_parts", "_law_width", "_law_row", "_law_places"]) fun _ _ _ _ _ _ us hl => match us, hl with | [_, _, _, _], _ => rfl⟩
theorem mk_law_asked {K : PySem.W.Frag} {f : Addr} {od an : Option Addr} {sl : Array (Option Value)} {oc kV dc pm cd ct : Value} (l : K.lookup f = some ⟨oc, od, .func (PySem.W.fnOf "_law_asked" "_law_asked" (defArgs s_law_asked) (defBody s_law_asked) (defScope s_law_asked) .none kV dc pm an cd ct), sl⟩) (c : PySem.W.codeIn K cd "_law_asked" = true) (k : PySem.W.keepIn K (.ref f) = true) :
    ∃ fd : FuncData, Fun K "_law_asked" "_law_asked" s_law_asked f fd ∧ Binds K fd ["_law_pool", "_law_row", "_law_places"] [] := ⟨_, fun_mk (st := s_law_asked) l c k, (fun_mk (st := s_law_asked) l c k).binds (ps := ["_law_pool", "_law_row", "_law_places"]) fun _ _ _ _ _ _ us hl => match us, hl with | [_, _, _], _ => rfl⟩
theorem mk_law_reach {K : PySem.W.Frag} {f : Addr} {od an : Option Addr} {sl : Array (Option Value)} {oc kV dc pm cd ct : Value} (l : K.lookup f = some ⟨oc, od, .func (PySem.W.fnOf "_law_reach" "_law_reach" (defArgs s_law_reach) (defBody s_law_reach) (defScope s_law_reach) .none kV dc pm an cd ct), sl⟩) (c : PySem.W.codeIn K cd "_law_reach" = true) (k : PySem.W.keepIn K (.ref f) = true) :
    ∃ fd : FuncData, Fun K "_law_reach" "_law_reach" s_law_reach f fd ∧ Binds K fd ["_law_parts", "_law_numbers"] [] := ⟨_, fun_mk (st := s_law_reach) l c k, (fun_mk (st := s_law_reach) l c k).binds (ps := ["_law_parts", "_law_numbers"]) fun _ _ _ _ _ _ us hl => match us, hl with | [_, _], _ => rfl⟩
theorem mk_law_moved {K : PySem.W.Frag} {f : Addr} {od an : Option Addr} {sl : Array (Option Value)} {oc kV dc pm cd ct : Value} (l : K.lookup f = some ⟨oc, od, .func (PySem.W.fnOf "_law_moved" "_law_moved" (defArgs s_law_moved) (defBody s_law_moved) (defScope s_law_moved) .none kV dc pm an cd ct), sl⟩) (c : PySem.W.codeIn K cd "_law_moved" = true) (k : PySem.W.keepIn K (.ref f) = true) :
    ∃ fd : FuncData, Fun K "_law_moved" "_law_moved" s_law_moved f fd ∧ Binds K fd ["_law_parts", "_law_number", "_law_width", "_law_made"] [] := ⟨_, fun_mk (st := s_law_moved) l c k, (fun_mk (st := s_law_moved) l c k).binds (ps := ["_law_parts", "_law_number", "_law_width", "_law_made"]) fun _ _ _ _ _ _ us hl => match us, hl with | [_, _, _, _], _ => rfl⟩
theorem mk_law_pair_rows {K : PySem.W.Frag} {f : Addr} {od an : Option Addr} {sl : Array (Option Value)} {oc kV dc pm cd ct : Value} (l : K.lookup f = some ⟨oc, od, .func (PySem.W.fnOf "_law_pair_rows" "_law_pair_rows" (defArgs s_law_pair_rows) (defBody s_law_pair_rows) (defScope s_law_pair_rows) .none kV dc pm an cd ct), sl⟩) (c : PySem.W.codeIn K cd "_law_pair_rows" = true) (k : PySem.W.keepIn K (.ref f) = true) :
    ∃ fd : FuncData, Fun K "_law_pair_rows" "_law_pair_rows" s_law_pair_rows f fd ∧ Binds K fd ["_law_draws_here", "_law_rows"] [] := ⟨_, fun_mk (st := s_law_pair_rows) l c k, (fun_mk (st := s_law_pair_rows) l c k).binds (ps := ["_law_draws_here", "_law_rows"]) fun _ _ _ _ _ _ us hl => match us, hl with | [_, _], _ => rfl⟩
theorem mk_law_all_made {K : PySem.W.Frag} {f : Addr} {od an : Option Addr} {sl : Array (Option Value)} {oc kV dc pm cd ct : Value} (l : K.lookup f = some ⟨oc, od, .func (PySem.W.fnOf "_law_all_made" "_law_all_made" (defArgs s_law_all_made) (defBody s_law_all_made) (defScope s_law_all_made) .none kV dc pm an cd ct), sl⟩) (c : PySem.W.codeIn K cd "_law_all_made" = true) (k : PySem.W.keepIn K (.ref f) = true) :
    ∃ fd : FuncData, Fun K "_law_all_made" "_law_all_made" s_law_all_made f fd ∧ Binds K fd ["_law_pool", "_law_parts", "_law_width", "_law_rows"] [] := ⟨_, fun_mk (st := s_law_all_made) l c k, (fun_mk (st := s_law_all_made) l c k).binds (ps := ["_law_pool", "_law_parts", "_law_width", "_law_rows"]) fun _ _ _ _ _ _ us hl => match us, hl with | [_, _, _, _], _ => rfl⟩
theorem mk_law_low {K : PySem.W.Frag} {f : Addr} {od an : Option Addr} {sl : Array (Option Value)} {oc kV dc pm cd ct : Value} (l : K.lookup f = some ⟨oc, od, .func (PySem.W.fnOf "_law_low" "_law_low" (defArgs s_law_low) (defBody s_law_low) (defScope s_law_low) .none kV dc pm an cd ct), sl⟩) (c : PySem.W.codeIn K cd "_law_low" = true) (k : PySem.W.keepIn K (.ref f) = true) :
    ∃ fd : FuncData, Fun K "_law_low" "_law_low" s_law_low f fd ∧ Binds K fd ["_law_words", "_law_width"] [] := ⟨_, fun_mk (st := s_law_low) l c k, (fun_mk (st := s_law_low) l c k).binds (ps := ["_law_words", "_law_width"]) fun _ _ _ _ _ _ us hl => match us, hl with | [_, _], _ => rfl⟩
theorem mk_law_carried_well {K : PySem.W.Frag} {f : Addr} {od an : Option Addr} {sl : Array (Option Value)} {oc kV dc pm cd ct : Value} (l : K.lookup f = some ⟨oc, od, .func (PySem.W.fnOf "_law_carried_well" "_law_carried_well" (defArgs s_law_carried_well) (defBody s_law_carried_well) (defScope s_law_carried_well) .none kV dc pm an cd ct), sl⟩) (c : PySem.W.codeIn K cd "_law_carried_well" = true) (k : PySem.W.keepIn K (.ref f) = true) :
    ∃ fd : FuncData, Fun K "_law_carried_well" "_law_carried_well" s_law_carried_well f fd ∧ Binds K fd ["_law_pool", "_law_parts", "_law_number", "_law_other", "_law_made", "_law_width"] [] := ⟨_, fun_mk (st := s_law_carried_well) l c k, (fun_mk (st := s_law_carried_well) l c k).binds (ps := ["_law_pool", "_law_parts", "_law_number", "_law_other", "_law_made", "_law_width"]) fun _ _ _ _ _ _ us hl => match us, hl with | [_, _, _, _, _, _], _ => rfl⟩
theorem mk_law_low_words {K : PySem.W.Frag} {f : Addr} {od an : Option Addr} {sl : Array (Option Value)} {oc kV dc pm cd ct : Value} (l : K.lookup f = some ⟨oc, od, .func (PySem.W.fnOf "_law_low_words" "_law_low_words" (defArgs s_law_low_words) (defBody s_law_low_words) (defScope s_law_low_words) .none kV dc pm an cd ct), sl⟩) (c : PySem.W.codeIn K cd "_law_low_words" = true) (k : PySem.W.keepIn K (.ref f) = true) :
    ∃ fd : FuncData, Fun K "_law_low_words" "_law_low_words" s_law_low_words f fd ∧ Binds K fd ["_law_pool", "_law_part_here", "_law_words", "_law_due", "_law_width"] [] := ⟨_, fun_mk (st := s_law_low_words) l c k, (fun_mk (st := s_law_low_words) l c k).binds (ps := ["_law_pool", "_law_part_here", "_law_words", "_law_due", "_law_width"]) fun _ _ _ _ _ _ us hl => match us, hl with | [_, _, _, _, _], _ => rfl⟩
theorem mk_law_twice {K : PySem.W.Frag} {f : Addr} {od an : Option Addr} {sl : Array (Option Value)} {oc kV dc pm cd ct : Value} (l : K.lookup f = some ⟨oc, od, .func (PySem.W.fnOf "_law_twice" "_law_twice" (defArgs s_law_twice) (defBody s_law_twice) (defScope s_law_twice) .none kV dc pm an cd ct), sl⟩) (c : PySem.W.codeIn K cd "_law_twice" = true) (k : PySem.W.keepIn K (.ref f) = true) :
    ∃ fd : FuncData, Fun K "_law_twice" "_law_twice" s_law_twice f fd ∧ Binds K fd ["_law_pool", "_law_parts", "_law_number", "_law_words", "_law_due", "_law_width"] [] := ⟨_, fun_mk (st := s_law_twice) l c k, (fun_mk (st := s_law_twice) l c k).binds (ps := ["_law_pool", "_law_parts", "_law_number", "_law_words", "_law_due", "_law_width"]) fun _ _ _ _ _ _ us hl => match us, hl with | [_, _, _, _, _, _], _ => rfl⟩
theorem mk_law_pair_same {K : PySem.W.Frag} {f : Addr} {od an : Option Addr} {sl : Array (Option Value)} {oc kV dc pm cd ct : Value} (l : K.lookup f = some ⟨oc, od, .func (PySem.W.fnOf "_law_pair_same" "_law_pair_same" (defArgs s_law_pair_same) (defBody s_law_pair_same) (defScope s_law_pair_same) .none kV dc pm an cd ct), sl⟩) (c : PySem.W.codeIn K cd "_law_pair_same" = true) (k : PySem.W.keepIn K (.ref f) = true) :
    ∃ fd : FuncData, Fun K "_law_pair_same" "_law_pair_same" s_law_pair_same f fd ∧ Binds K fd ["_law_pool", "_law_one", "_law_other", "_law_unknowns", "_law_width"] [] := ⟨_, fun_mk (st := s_law_pair_same) l c k, (fun_mk (st := s_law_pair_same) l c k).binds (ps := ["_law_pool", "_law_one", "_law_other", "_law_unknowns", "_law_width"]) fun _ _ _ _ _ _ us hl => match us, hl with | [_, _, _, _, _], _ => rfl⟩
theorem mk_law_doubled {K : PySem.W.Frag} {f : Addr} {od an : Option Addr} {sl : Array (Option Value)} {oc kV dc pm cd ct : Value} (l : K.lookup f = some ⟨oc, od, .func (PySem.W.fnOf "_law_doubled" "_law_doubled" (defArgs s_law_doubled) (defBody s_law_doubled) (defScope s_law_doubled) .none kV dc pm an cd ct), sl⟩) (c : PySem.W.codeIn K cd "_law_doubled" = true) (k : PySem.W.keepIn K (.ref f) = true) :
    ∃ fd : FuncData, Fun K "_law_doubled" "_law_doubled" s_law_doubled f fd ∧ Binds K fd ["_law_width"] [] := ⟨_, fun_mk (st := s_law_doubled) l c k, (fun_mk (st := s_law_doubled) l c k).binds (ps := ["_law_width"]) fun _ _ _ _ _ _ us hl => match us, hl with | [_], _ => rfl⟩
theorem mk_law_refused {K : PySem.W.Frag} {f : Addr} {od an : Option Addr} {sl : Array (Option Value)} {oc kV dc pm cd ct : Value} (l : K.lookup f = some ⟨oc, od, .func (PySem.W.fnOf "_law_refused" "_law_refused" (defArgs s_law_refused) (defBody s_law_refused) (defScope s_law_refused) .none kV dc pm an cd ct), sl⟩) (c : PySem.W.codeIn K cd "_law_refused" = true) (k : PySem.W.keepIn K (.ref f) = true) :
    ∃ fd : FuncData, Fun K "_law_refused" "_law_refused" s_law_refused f fd ∧ Binds K fd ["_law_pool", "_law_number", "_law_other"] [] := ⟨_, fun_mk (st := s_law_refused) l c k, (fun_mk (st := s_law_refused) l c k).binds (ps := ["_law_pool", "_law_number", "_law_other"]) fun _ _ _ _ _ _ us hl => match us, hl with | [_, _, _], _ => rfl⟩
theorem mk_law {K : PySem.W.Frag} {f : Addr} {od an : Option Addr} {sl : Array (Option Value)} {oc kV dc pm cd ct : Value} (l : K.lookup f = some ⟨oc, od, .func (PySem.W.fnOf "law" "law" (defArgs s_law) (defBody s_law) (defScope s_law) .none kV dc pm an cd ct), sl⟩) (c : PySem.W.codeIn K cd "law" = true) (k : PySem.W.keepIn K (.ref f) = true) :
    ∃ fd : FuncData, Fun K "law" "law" s_law f fd ∧ Binds K fd ["_law_script"] [] := ⟨_, fun_mk (st := s_law) l c k, (fun_mk (st := s_law) l c k).binds (ps := ["_law_script"]) fun _ _ _ _ _ _ us hl => match us, hl with | [_], _ => rfl⟩
theorem all_mk {K : PySem.W.Frag} {h : Heap} {mg : Str → Option Value} {C f_op_word f_shortened f_shortened_and f_shortened_twice f_is_int f_is_row f_check_int f_ones f_carried f_p_init f_p_len f_p_iter f_p_check_part f_p_check_parts f_p_num f_p_unknown f_p_apply f_p_part f_p_value f_p_reached f_p_reached_by f_p_made f_p_word f_p_gets f_law_draws f_law_take f_law_word f_law_is_int f_law_op f_law_ops f_law_term_rows f_law_row_words f_law_all_rows f_law_keep f_law_short f_law_apply f_law_part f_law_asked f_law_reach f_law_moved f_law_pair_rows f_law_all_made f_law_low f_law_carried_well f_law_low_words f_law_twice f_law_pair_same f_law_doubled f_law_refused f_law C_BadPart a_OPS a_EITHER_WAY : Addr} {t_MOST_PARTS t_LAST_UNKNOWN : Tok} (X : K.In h) (G : h.Ns mainGlobals mg)
    (a_fn_op_word : PySem.W.nsIn K mainGlobals "op_word" = some (some (.ref f_op_word)))
    (m_op_word : ∃ fd : FuncData, Fun K "op_word" "op_word" s_op_word f_op_word fd ∧ Binds K fd ["name", "one", "other", "width"] [])
    (a_fn_shortened : PySem.W.nsIn K mainGlobals "shortened" = some (some (.ref f_shortened)))
    (m_shortened : ∃ fd : FuncData, Fun K "shortened" "shortened" s_shortened f_shortened fd ∧ Binds K fd ["name", "first", "second", "equal", "most"] [])
    (a_fn_shortened_and : PySem.W.nsIn K mainGlobals "shortened_and" = some (some (.ref f_shortened_and)))
    (m_shortened_and : ∃ fd : FuncData, Fun K "shortened_and" "shortened_and" s_shortened_and f_shortened_and fd ∧ Binds K fd ["first", "second", "equal", "most"] [])
    (a_fn_shortened_twice : PySem.W.nsIn K mainGlobals "shortened_twice" = some (some (.ref f_shortened_twice)))
    (m_shortened_twice : ∃ fd : FuncData, Fun K "shortened_twice" "shortened_twice" s_shortened_twice f_shortened_twice fd ∧ Binds K fd ["name"] [])
    (a_fn_is_int : PySem.W.nsIn K mainGlobals "is_int" = some (some (.ref f_is_int)))
    (m_is_int : ∃ fd : FuncData, Fun K "is_int" "is_int" s_is_int f_is_int fd ∧ Binds K fd ["value"] [])
    (a_fn_is_row : PySem.W.nsIn K mainGlobals "is_row" = some (some (.ref f_is_row)))
    (m_is_row : ∃ fd : FuncData, Fun K "is_row" "is_row" s_is_row f_is_row fd ∧ Binds K fd ["value"] [])
    (a_fn_check_int : PySem.W.nsIn K mainGlobals "check_int" = some (some (.ref f_check_int)))
    (m_check_int : ∃ fd : FuncData, Fun K "check_int" "check_int" s_check_int f_check_int fd ∧ Binds K fd ["value", "low", "high", "name"] [])
    (a_fn_ones : PySem.W.nsIn K mainGlobals "ones" = some (some (.ref f_ones)))
    (m_ones : ∃ fd : FuncData, Fun K "ones" "ones" s_ones f_ones fd ∧ Binds K fd ["width"] [])
    (a_fn_carried : PySem.W.nsIn K mainGlobals "carried" = some (some (.ref f_carried)))
    (m_carried : ∃ fd : FuncData, Fun K "carried" "carried" s_carried f_carried fd ∧ Binds K fd ["pool", "part", "other"] [])
    (a_fn_p_init : PySem.W.findIn K (.ref C) "__init__" = some (some (.ref f_p_init)))
    (i_p_init : PySem.W.isFn K (.ref f_p_init) = true)
    (kp_p_init : PySem.W.keepIn K (.ref f_p_init) = true)
    (m_p_init : ∃ fd : FuncData, Fun K "__init__" "Pool.__init__" s_p_init f_p_init fd ∧ Binds K fd ["self", "width"] [])
    (a_fn_p_len : PySem.W.findIn K (.ref C) "__len__" = some (some (.ref f_p_len)))
    (i_p_len : PySem.W.isFn K (.ref f_p_len) = true)
    (kp_p_len : PySem.W.keepIn K (.ref f_p_len) = true)
    (m_p_len : ∃ fd : FuncData, Fun K "__len__" "Pool.__len__" s_p_len f_p_len fd ∧ Binds K fd ["self"] [])
    (a_fn_p_iter : PySem.W.findIn K (.ref C) "__iter__" = some (some (.ref f_p_iter)))
    (i_p_iter : PySem.W.isFn K (.ref f_p_iter) = true)
    (kp_p_iter : PySem.W.keepIn K (.ref f_p_iter) = true)
    (m_p_iter : ∃ fd : FuncData, Fun K "__iter__" "Pool.__iter__" s_p_iter f_p_iter fd ∧ Binds K fd ["self"] [])
    (a_fn_p_check_part : PySem.W.findIn K (.ref C) "check_part" = some (some (.ref f_p_check_part)))
    (i_p_check_part : PySem.W.isFn K (.ref f_p_check_part) = true)
    (kp_p_check_part : PySem.W.keepIn K (.ref f_p_check_part) = true)
    (m_p_check_part : ∃ fd : FuncData, Fun K "check_part" "Pool.check_part" s_p_check_part f_p_check_part fd ∧ Binds K fd ["self", "number"] [])
    (a_fn_p_check_parts : PySem.W.findIn K (.ref C) "check_parts" = some (some (.ref f_p_check_parts)))
    (i_p_check_parts : PySem.W.isFn K (.ref f_p_check_parts) = true)
    (kp_p_check_parts : PySem.W.keepIn K (.ref f_p_check_parts) = true)
    (m_p_check_parts : ∃ fd : FuncData, Fun K "check_parts" "Pool.check_parts" s_p_check_parts f_p_check_parts fd ∧ Binds K fd ["self", "numbers"] [])
    (a_fn_p_num : PySem.W.findIn K (.ref C) "num" = some (some (.ref f_p_num)))
    (i_p_num : PySem.W.isFn K (.ref f_p_num) = true)
    (kp_p_num : PySem.W.keepIn K (.ref f_p_num) = true)
    (m_p_num : ∃ fd : FuncData, Fun K "num" "Pool.num" s_p_num f_p_num fd ∧ Binds K fd ["self", "value"] [])
    (a_fn_p_unknown : PySem.W.findIn K (.ref C) "unknown" = some (some (.ref f_p_unknown)))
    (i_p_unknown : PySem.W.isFn K (.ref f_p_unknown) = true)
    (kp_p_unknown : PySem.W.keepIn K (.ref f_p_unknown) = true)
    (m_p_unknown : ∃ fd : FuncData, Fun K "unknown" "Pool.unknown" s_p_unknown f_p_unknown fd ∧ Binds K fd ["self", "number"] [])
    (a_fn_p_apply : PySem.W.findIn K (.ref C) "apply" = some (some (.ref f_p_apply)))
    (i_p_apply : PySem.W.isFn K (.ref f_p_apply) = true)
    (kp_p_apply : PySem.W.keepIn K (.ref f_p_apply) = true)
    (m_p_apply : ∃ fd : FuncData, Fun K "apply" "Pool.apply" s_p_apply f_p_apply fd ∧ Binds K fd ["self", "name", "one", "other"] [])
    (a_fn_p_part : PySem.W.findIn K (.ref C) "part" = some (some (.ref f_p_part)))
    (i_p_part : PySem.W.isFn K (.ref f_p_part) = true)
    (kp_p_part : PySem.W.keepIn K (.ref f_p_part) = true)
    (m_p_part : ∃ fd : FuncData, Fun K "part" "Pool.part" s_p_part f_p_part fd ∧ Binds K fd ["self", "number"] [])
    (a_fn_p_value : PySem.W.findIn K (.ref C) "value" = some (some (.ref f_p_value)))
    (i_p_value : PySem.W.isFn K (.ref f_p_value) = true)
    (kp_p_value : PySem.W.keepIn K (.ref f_p_value) = true)
    (m_p_value : ∃ fd : FuncData, Fun K "value" "Pool.value" s_p_value f_p_value fd ∧ Binds K fd ["self", "number", "words"] [])
    (a_fn_p_reached : PySem.W.findIn K (.ref C) "reached" = some (some (.ref f_p_reached)))
    (i_p_reached : PySem.W.isFn K (.ref f_p_reached) = true)
    (kp_p_reached : PySem.W.keepIn K (.ref f_p_reached) = true)
    (m_p_reached : ∃ fd : FuncData, Fun K "reached" "Pool.reached" s_p_reached f_p_reached fd ∧ Binds K fd ["self", "number"] [])
    (a_fn_p_reached_by : PySem.W.findIn K (.ref C) "reached_by" = some (some (.ref f_p_reached_by)))
    (i_p_reached_by : PySem.W.isFn K (.ref f_p_reached_by) = true)
    (kp_p_reached_by : PySem.W.keepIn K (.ref f_p_reached_by) = true)
    (m_p_reached_by : ∃ fd : FuncData, Fun K "reached_by" "Pool.reached_by" s_p_reached_by f_p_reached_by fd ∧ Binds K fd ["self", "numbers"] [])
    (a_fn_p_made : PySem.W.findIn K (.ref C) "_made" = some (some (.ref f_p_made)))
    (i_p_made : PySem.W.isFn K (.ref f_p_made) = true)
    (kp_p_made : PySem.W.keepIn K (.ref f_p_made) = true)
    (m_p_made : ∃ fd : FuncData, Fun K "_made" "Pool._made" s_p_made f_p_made fd ∧ Binds K fd ["self", "part"] [])
    (a_fn_p_word : PySem.W.findIn K (.ref C) "_word" = some (some (.ref f_p_word)))
    (i_p_word : PySem.W.isFn K (.ref f_p_word) = true)
    (kp_p_word : PySem.W.keepIn K (.ref f_p_word) = true)
    (m_p_word : ∃ fd : FuncData, Fun K "_word" "Pool._word" s_p_word f_p_word fd ∧ Binds K fd ["self", "number"] [])
    (a_fn_p_gets : PySem.W.findIn K (.ref C) "_gets" = some (some (.ref f_p_gets)))
    (i_p_gets : PySem.W.isFn K (.ref f_p_gets) = true)
    (kp_p_gets : PySem.W.keepIn K (.ref f_p_gets) = true)
    (m_p_gets : ∃ fd : FuncData, Fun K "_gets" "Pool._gets" s_p_gets f_p_gets fd ∧ Binds K fd ["self", "numbers"] [])
    (a_fn_law_draws : PySem.W.nsIn K mainGlobals "_law_draws" = some (some (.ref f_law_draws)))
    (m_law_draws : ∃ fd : FuncData, Fun K "_law_draws" "_law_draws" s_law_draws f_law_draws fd ∧ Binds K fd ["_law_script"] [])
    (a_fn_law_take : PySem.W.nsIn K mainGlobals "_law_take" = some (some (.ref f_law_take)))
    (m_law_take : ∃ fd : FuncData, Fun K "_law_take" "_law_take" s_law_take f_law_take fd ∧ Binds K fd ["_law_draws_here", "_law_many"] [])
    (a_fn_law_word : PySem.W.nsIn K mainGlobals "_law_word" = some (some (.ref f_law_word)))
    (m_law_word : ∃ fd : FuncData, Fun K "_law_word" "_law_word" s_law_word f_law_word fd ∧ Binds K fd ["_law_draws_here", "_law_width"] [])
    (a_fn_law_is_int : PySem.W.nsIn K mainGlobals "_law_is_int" = some (some (.ref f_law_is_int)))
    (m_law_is_int : ∃ fd : FuncData, Fun K "_law_is_int" "_law_is_int" s_law_is_int f_law_is_int fd ∧ Binds K fd ["_law_thing"] [])
    (a_fn_law_op : PySem.W.nsIn K mainGlobals "_law_op" = some (some (.ref f_law_op)))
    (m_law_op : ∃ fd : FuncData, Fun K "_law_op" "_law_op" s_law_op f_law_op fd ∧ Binds K fd ["_law_name", "_law_one", "_law_other", "_law_width"] [])
    (a_fn_law_ops : PySem.W.nsIn K mainGlobals "_law_ops" = some (some (.ref f_law_ops)))
    (m_law_ops : ∃ fd : FuncData, Fun K "_law_ops" "_law_ops" s_law_ops f_law_ops fd ∧ Binds K fd [] [])
    (a_fn_law_term_rows : PySem.W.nsIn K mainGlobals "_law_term_rows" = some (some (.ref f_law_term_rows)))
    (m_law_term_rows : ∃ fd : FuncData, Fun K "_law_term_rows" "_law_term_rows" s_law_term_rows f_law_term_rows fd ∧ Binds K fd ["_law_draws_here", "_law_unknowns", "_law_width", "_law_many", "_law_plain"] [])
    (a_fn_law_row_words : PySem.W.nsIn K mainGlobals "_law_row_words" = some (some (.ref f_law_row_words)))
    (m_law_row_words : ∃ fd : FuncData, Fun K "_law_row_words" "_law_row_words" s_law_row_words f_law_row_words fd ∧ Binds K fd ["_law_rows", "_law_words", "_law_width"] [])
    (a_fn_law_all_rows : PySem.W.nsIn K mainGlobals "_law_all_rows" = some (some (.ref f_law_all_rows)))
    (m_law_all_rows : ∃ fd : FuncData, Fun K "_law_all_rows" "_law_all_rows" s_law_all_rows f_law_all_rows fd ∧ Binds K fd ["_law_limits"] [])
    (a_fn_law_keep : PySem.W.nsIn K mainGlobals "_law_keep" = some (some (.ref f_law_keep)))
    (m_law_keep : ∃ fd : FuncData, Fun K "_law_keep" "_law_keep" s_law_keep f_law_keep fd ∧ Binds K fd ["_law_parts", "_law_part_here"] [])
    (a_fn_law_short : PySem.W.nsIn K mainGlobals "_law_short" = some (some (.ref f_law_short)))
    (m_law_short : ∃ fd : FuncData, Fun K "_law_short" "_law_short" s_law_short f_law_short fd ∧ Binds K fd ["_law_parts", "_law_width", "_law_name", "_law_one", "_law_other"] [])
    (a_fn_law_apply : PySem.W.nsIn K mainGlobals "_law_apply" = some (some (.ref f_law_apply)))
    (m_law_apply : ∃ fd : FuncData, Fun K "_law_apply" "_law_apply" s_law_apply f_law_apply fd ∧ Binds K fd ["_law_parts", "_law_width", "_law_name", "_law_one", "_law_other"] [])
    (a_fn_law_part : PySem.W.nsIn K mainGlobals "_law_part" = some (some (.ref f_law_part)))
    (m_law_part : ∃ fd : FuncData, Fun K "_law_part" "_law_part" s_law_part f_law_part fd ∧ Binds K fd ["_law_parts", "_law_width", "_law_row", "_law_places"] [])
    (a_fn_law_asked : PySem.W.nsIn K mainGlobals "_law_asked" = some (some (.ref f_law_asked)))
    (m_law_asked : ∃ fd : FuncData, Fun K "_law_asked" "_law_asked" s_law_asked f_law_asked fd ∧ Binds K fd ["_law_pool", "_law_row", "_law_places"] [])
    (a_fn_law_reach : PySem.W.nsIn K mainGlobals "_law_reach" = some (some (.ref f_law_reach)))
    (m_law_reach : ∃ fd : FuncData, Fun K "_law_reach" "_law_reach" s_law_reach f_law_reach fd ∧ Binds K fd ["_law_parts", "_law_numbers"] [])
    (a_fn_law_moved : PySem.W.nsIn K mainGlobals "_law_moved" = some (some (.ref f_law_moved)))
    (m_law_moved : ∃ fd : FuncData, Fun K "_law_moved" "_law_moved" s_law_moved f_law_moved fd ∧ Binds K fd ["_law_parts", "_law_number", "_law_width", "_law_made"] [])
    (a_fn_law_pair_rows : PySem.W.nsIn K mainGlobals "_law_pair_rows" = some (some (.ref f_law_pair_rows)))
    (m_law_pair_rows : ∃ fd : FuncData, Fun K "_law_pair_rows" "_law_pair_rows" s_law_pair_rows f_law_pair_rows fd ∧ Binds K fd ["_law_draws_here", "_law_rows"] [])
    (a_fn_law_all_made : PySem.W.nsIn K mainGlobals "_law_all_made" = some (some (.ref f_law_all_made)))
    (m_law_all_made : ∃ fd : FuncData, Fun K "_law_all_made" "_law_all_made" s_law_all_made f_law_all_made fd ∧ Binds K fd ["_law_pool", "_law_parts", "_law_width", "_law_rows"] [])
    (a_fn_law_low : PySem.W.nsIn K mainGlobals "_law_low" = some (some (.ref f_law_low)))
    (m_law_low : ∃ fd : FuncData, Fun K "_law_low" "_law_low" s_law_low f_law_low fd ∧ Binds K fd ["_law_words", "_law_width"] [])
    (a_fn_law_carried_well : PySem.W.nsIn K mainGlobals "_law_carried_well" = some (some (.ref f_law_carried_well)))
    (m_law_carried_well : ∃ fd : FuncData, Fun K "_law_carried_well" "_law_carried_well" s_law_carried_well f_law_carried_well fd ∧ Binds K fd ["_law_pool", "_law_parts", "_law_number", "_law_other", "_law_made", "_law_width"] [])
    (a_fn_law_low_words : PySem.W.nsIn K mainGlobals "_law_low_words" = some (some (.ref f_law_low_words)))
    (m_law_low_words : ∃ fd : FuncData, Fun K "_law_low_words" "_law_low_words" s_law_low_words f_law_low_words fd ∧ Binds K fd ["_law_pool", "_law_part_here", "_law_words", "_law_due", "_law_width"] [])
    (a_fn_law_twice : PySem.W.nsIn K mainGlobals "_law_twice" = some (some (.ref f_law_twice)))
    (m_law_twice : ∃ fd : FuncData, Fun K "_law_twice" "_law_twice" s_law_twice f_law_twice fd ∧ Binds K fd ["_law_pool", "_law_parts", "_law_number", "_law_words", "_law_due", "_law_width"] [])
    (a_fn_law_pair_same : PySem.W.nsIn K mainGlobals "_law_pair_same" = some (some (.ref f_law_pair_same)))
    (m_law_pair_same : ∃ fd : FuncData, Fun K "_law_pair_same" "_law_pair_same" s_law_pair_same f_law_pair_same fd ∧ Binds K fd ["_law_pool", "_law_one", "_law_other", "_law_unknowns", "_law_width"] [])
    (a_fn_law_doubled : PySem.W.nsIn K mainGlobals "_law_doubled" = some (some (.ref f_law_doubled)))
    (m_law_doubled : ∃ fd : FuncData, Fun K "_law_doubled" "_law_doubled" s_law_doubled f_law_doubled fd ∧ Binds K fd ["_law_width"] [])
    (a_fn_law_refused : PySem.W.nsIn K mainGlobals "_law_refused" = some (some (.ref f_law_refused)))
    (m_law_refused : ∃ fd : FuncData, Fun K "_law_refused" "_law_refused" s_law_refused f_law_refused fd ∧ Binds K fd ["_law_pool", "_law_number", "_law_other"] [])
    (a_fn_law : PySem.W.nsIn K mainGlobals "law" = some (some (.ref f_law)))
    {od an : Option Addr} {sl : Array (Option Value)} {oc kV dc pm cd ct : Value}
    (l_law : K.lookup f_law = some ⟨oc, od, .func (PySem.W.fnOf "law" "law" (defArgs s_law) (defBody s_law) (defScope s_law) .none kV dc pm an cd ct), sl⟩)
    (c_law : PySem.W.codeIn K cd "law" = true)
    (kp_law : PySem.W.keepIn K (.ref f_law) = true)
    (aC : PySem.W.nsIn K mainGlobals "Pool" = some (some (.ref C)))
    (pg : PySem.W.plainGet K C Str.empty = true)
    (hd_ : PySem.W.hasDictIn K C = true)
    (po : PySem.W.plainOver K C = true)
    (sa : PySem.W.findIn K (.ref C) "__setattr__" = some (some (.builtin "object.__setattr__")))
    (mkI : PySem.W.makesIn K C = true)
    (kc : PySem.W.keepIn K (.ref C) = true)
    (nA_width : PySem.W.findIn K (.ref C) "width" = some none)
    (nA__most : PySem.W.findIn K (.ref C) "_most" = some none)
    (nA__parts : PySem.W.findIn K (.ref C) "_parts" = some none)
    (nA__numbers : PySem.W.findIn K (.ref C) "_numbers" = some none)
    (ct_MOST_PARTS : PySem.W.nsIn K mainGlobals "MOST_PARTS" = some (some (.int 4000 t_MOST_PARTS)))
    (ct_LAST_UNKNOWN : PySem.W.nsIn K mainGlobals "LAST_UNKNOWN" = some (some (.int 63 t_LAST_UNKNOWN)))
    (ca_OPS : PySem.W.nsIn K mainGlobals "OPS" = some (some (.ref a_OPS)))
    (cv_OPS : ∀ H, SqT K H a_OPS [.str "add", .str "sub", .str "and", .str "or", .str "xor", .str "less", .str "same"])
    (ca_EITHER_WAY : PySem.W.nsIn K mainGlobals "EITHER_WAY" = some (some (.ref a_EITHER_WAY)))
    (cv_EITHER_WAY : ∀ H, SqT K H a_EITHER_WAY [.str "add", .str "and", .str "or", .str "xor", .str "same"])
    (z_len : PySem.W.nsIn K mainGlobals "len" = some none)
    (z_list : PySem.W.nsIn K mainGlobals "list" = some none)
    (z_tuple : PySem.W.nsIn K mainGlobals "tuple" = some none)
    (z_int : PySem.W.nsIn K mainGlobals "int" = some none)
    (z_min : PySem.W.nsIn K mainGlobals "min" = some none)
    (z_range : PySem.W.nsIn K mainGlobals "range" = some none)
    (z_isinstance : PySem.W.nsIn K mainGlobals "isinstance" = some none)
    (z_sorted : PySem.W.nsIn K mainGlobals "sorted" = some none)
    (z_bool : PySem.W.nsIn K mainGlobals "bool" = some none)
    (z_iter : PySem.W.nsIn K mainGlobals "iter" = some none)
    (xa_BadPart : PySem.W.nsIn K mainGlobals "BadPart" = some (some (.ref C_BadPart)))
    (xk_BadPart : PySem.W.keepIn K (.ref C_BadPart) = true)
    (xx_BadPart : PySem.W.excIn K C_BadPart [.type "Exception", .type "BaseException", .type "object"] "Exception.__new__" = true)
    (xb_BadPart : PySem.W.subIn K (.ref C_BadPart) (.type "BaseException") = some true)
    (xt_BadPart : PySem.W.typeIn K (.ref C_BadPart) = some (.type "type"))
    (xi_BadPart : PySem.W.isClsIn K C_BadPart = true)
    (xs_BadPart : PySem.W.subIn K (.ref C_BadPart) (.ref C_BadPart) = some true)
    : ∃ T : Txt K mg, T.f_law = f_law ∧ T.fd_law = PySem.W.fnOf "law" "law" (defArgs s_law) (defBody s_law) (defScope s_law) .none kV dc pm an cd ct := by
  obtain ⟨fd_op_word, F_op_word, b_op_word⟩ := m_op_word
  obtain ⟨fd_shortened, F_shortened, b_shortened⟩ := m_shortened
  obtain ⟨fd_shortened_and, F_shortened_and, b_shortened_and⟩ := m_shortened_and
  obtain ⟨fd_shortened_twice, F_shortened_twice, b_shortened_twice⟩ := m_shortened_twice
  obtain ⟨fd_is_int, F_is_int, b_is_int⟩ := m_is_int
  obtain ⟨fd_is_row, F_is_row, b_is_row⟩ := m_is_row
  obtain ⟨fd_check_int, F_check_int, b_check_int⟩ := m_check_int
  obtain ⟨fd_ones, F_ones, b_ones⟩ := m_ones
  obtain ⟨fd_carried, F_carried, b_carried⟩ := m_carried
  obtain ⟨fd_p_init, F_p_init, b_p_init⟩ := m_p_init
  obtain ⟨fd_p_len, F_p_len, b_p_len⟩ := m_p_len
  obtain ⟨fd_p_iter, F_p_iter, b_p_iter⟩ := m_p_iter
  obtain ⟨fd_p_check_part, F_p_check_part, b_p_check_part⟩ := m_p_check_part
  obtain ⟨fd_p_check_parts, F_p_check_parts, b_p_check_parts⟩ := m_p_check_parts
  obtain ⟨fd_p_num, F_p_num, b_p_num⟩ := m_p_num
  obtain ⟨fd_p_unknown, F_p_unknown, b_p_unknown⟩ := m_p_unknown
  obtain ⟨fd_p_apply, F_p_apply, b_p_apply⟩ := m_p_apply
  obtain ⟨fd_p_part, F_p_part, b_p_part⟩ := m_p_part
  obtain ⟨fd_p_value, F_p_value, b_p_value⟩ := m_p_value
  obtain ⟨fd_p_reached, F_p_reached, b_p_reached⟩ := m_p_reached
  obtain ⟨fd_p_reached_by, F_p_reached_by, b_p_reached_by⟩ := m_p_reached_by
  obtain ⟨fd_p_made, F_p_made, b_p_made⟩ := m_p_made
  obtain ⟨fd_p_word, F_p_word, b_p_word⟩ := m_p_word
  obtain ⟨fd_p_gets, F_p_gets, b_p_gets⟩ := m_p_gets
  obtain ⟨fd_law_draws, F_law_draws, b_law_draws⟩ := m_law_draws
  obtain ⟨fd_law_take, F_law_take, b_law_take⟩ := m_law_take
  obtain ⟨fd_law_word, F_law_word, b_law_word⟩ := m_law_word
  obtain ⟨fd_law_is_int, F_law_is_int, b_law_is_int⟩ := m_law_is_int
  obtain ⟨fd_law_op, F_law_op, b_law_op⟩ := m_law_op
  obtain ⟨fd_law_ops, F_law_ops, b_law_ops⟩ := m_law_ops
  obtain ⟨fd_law_term_rows, F_law_term_rows, b_law_term_rows⟩ := m_law_term_rows
  obtain ⟨fd_law_row_words, F_law_row_words, b_law_row_words⟩ := m_law_row_words
  obtain ⟨fd_law_all_rows, F_law_all_rows, b_law_all_rows⟩ := m_law_all_rows
  obtain ⟨fd_law_keep, F_law_keep, b_law_keep⟩ := m_law_keep
  obtain ⟨fd_law_short, F_law_short, b_law_short⟩ := m_law_short
  obtain ⟨fd_law_apply, F_law_apply, b_law_apply⟩ := m_law_apply
  obtain ⟨fd_law_part, F_law_part, b_law_part⟩ := m_law_part
  obtain ⟨fd_law_asked, F_law_asked, b_law_asked⟩ := m_law_asked
  obtain ⟨fd_law_reach, F_law_reach, b_law_reach⟩ := m_law_reach
  obtain ⟨fd_law_moved, F_law_moved, b_law_moved⟩ := m_law_moved
  obtain ⟨fd_law_pair_rows, F_law_pair_rows, b_law_pair_rows⟩ := m_law_pair_rows
  obtain ⟨fd_law_all_made, F_law_all_made, b_law_all_made⟩ := m_law_all_made
  obtain ⟨fd_law_low, F_law_low, b_law_low⟩ := m_law_low
  obtain ⟨fd_law_carried_well, F_law_carried_well, b_law_carried_well⟩ := m_law_carried_well
  obtain ⟨fd_law_low_words, F_law_low_words, b_law_low_words⟩ := m_law_low_words
  obtain ⟨fd_law_twice, F_law_twice, b_law_twice⟩ := m_law_twice
  obtain ⟨fd_law_pair_same, F_law_pair_same, b_law_pair_same⟩ := m_law_pair_same
  obtain ⟨fd_law_doubled, F_law_doubled, b_law_doubled⟩ := m_law_doubled
  obtain ⟨fd_law_refused, F_law_refused, b_law_refused⟩ := m_law_refused
  have F_law := fun_mk (st := s_law) l_law c_law kp_law
  refine ⟨{
    f_op_word := f_op_word,
    fd_op_word := fd_op_word,
    F_op_word := F_op_word,
    b_op_word := b_op_word,
    g_op_word := PySem.W.mg_of X G a_fn_op_word,
    f_shortened := f_shortened,
    fd_shortened := fd_shortened,
    F_shortened := F_shortened,
    b_shortened := b_shortened,
    g_shortened := PySem.W.mg_of X G a_fn_shortened,
    f_shortened_and := f_shortened_and,
    fd_shortened_and := fd_shortened_and,
    F_shortened_and := F_shortened_and,
    b_shortened_and := b_shortened_and,
    g_shortened_and := PySem.W.mg_of X G a_fn_shortened_and,
    f_shortened_twice := f_shortened_twice,
    fd_shortened_twice := fd_shortened_twice,
    F_shortened_twice := F_shortened_twice,
    b_shortened_twice := b_shortened_twice,
    g_shortened_twice := PySem.W.mg_of X G a_fn_shortened_twice,
    f_is_int := f_is_int,
    fd_is_int := fd_is_int,
    F_is_int := F_is_int,
    b_is_int := b_is_int,
    g_is_int := PySem.W.mg_of X G a_fn_is_int,
    f_is_row := f_is_row,
    fd_is_row := fd_is_row,
    F_is_row := F_is_row,
    b_is_row := b_is_row,
    g_is_row := PySem.W.mg_of X G a_fn_is_row,
    f_check_int := f_check_int,
    fd_check_int := fd_check_int,
    F_check_int := F_check_int,
    b_check_int := b_check_int,
    g_check_int := PySem.W.mg_of X G a_fn_check_int,
    f_ones := f_ones,
    fd_ones := fd_ones,
    F_ones := F_ones,
    b_ones := b_ones,
    g_ones := PySem.W.mg_of X G a_fn_ones,
    f_carried := f_carried,
    fd_carried := fd_carried,
    F_carried := F_carried,
    b_carried := b_carried,
    g_carried := PySem.W.mg_of X G a_fn_carried,
    f_p_init := f_p_init,
    fd_p_init := fd_p_init,
    F_p_init := F_p_init,
    b_p_init := b_p_init,
    m_p_init := ⟨a_fn_p_init, i_p_init, kp_p_init⟩,
    f_p_len := f_p_len,
    fd_p_len := fd_p_len,
    F_p_len := F_p_len,
    b_p_len := b_p_len,
    m_p_len := ⟨a_fn_p_len, i_p_len, kp_p_len⟩,
    f_p_iter := f_p_iter,
    fd_p_iter := fd_p_iter,
    F_p_iter := F_p_iter,
    b_p_iter := b_p_iter,
    m_p_iter := ⟨a_fn_p_iter, i_p_iter, kp_p_iter⟩,
    f_p_check_part := f_p_check_part,
    fd_p_check_part := fd_p_check_part,
    F_p_check_part := F_p_check_part,
    b_p_check_part := b_p_check_part,
    m_p_check_part := ⟨a_fn_p_check_part, i_p_check_part, kp_p_check_part⟩,
    f_p_check_parts := f_p_check_parts,
    fd_p_check_parts := fd_p_check_parts,
    F_p_check_parts := F_p_check_parts,
    b_p_check_parts := b_p_check_parts,
    m_p_check_parts := ⟨a_fn_p_check_parts, i_p_check_parts, kp_p_check_parts⟩,
    f_p_num := f_p_num,
    fd_p_num := fd_p_num,
    F_p_num := F_p_num,
    b_p_num := b_p_num,
    m_p_num := ⟨a_fn_p_num, i_p_num, kp_p_num⟩,
    f_p_unknown := f_p_unknown,
    fd_p_unknown := fd_p_unknown,
    F_p_unknown := F_p_unknown,
    b_p_unknown := b_p_unknown,
    m_p_unknown := ⟨a_fn_p_unknown, i_p_unknown, kp_p_unknown⟩,
    f_p_apply := f_p_apply,
    fd_p_apply := fd_p_apply,
    F_p_apply := F_p_apply,
    b_p_apply := b_p_apply,
    m_p_apply := ⟨a_fn_p_apply, i_p_apply, kp_p_apply⟩,
    f_p_part := f_p_part,
    fd_p_part := fd_p_part,
    F_p_part := F_p_part,
    b_p_part := b_p_part,
    m_p_part := ⟨a_fn_p_part, i_p_part, kp_p_part⟩,
    f_p_value := f_p_value,
    fd_p_value := fd_p_value,
    F_p_value := F_p_value,
    b_p_value := b_p_value,
    m_p_value := ⟨a_fn_p_value, i_p_value, kp_p_value⟩,
    f_p_reached := f_p_reached,
    fd_p_reached := fd_p_reached,
    F_p_reached := F_p_reached,
    b_p_reached := b_p_reached,
    m_p_reached := ⟨a_fn_p_reached, i_p_reached, kp_p_reached⟩,
    f_p_reached_by := f_p_reached_by,
    fd_p_reached_by := fd_p_reached_by,
    F_p_reached_by := F_p_reached_by,
    b_p_reached_by := b_p_reached_by,
    m_p_reached_by := ⟨a_fn_p_reached_by, i_p_reached_by, kp_p_reached_by⟩,
    f_p_made := f_p_made,
    fd_p_made := fd_p_made,
    F_p_made := F_p_made,
    b_p_made := b_p_made,
    m_p_made := ⟨a_fn_p_made, i_p_made, kp_p_made⟩,
    f_p_word := f_p_word,
    fd_p_word := fd_p_word,
    F_p_word := F_p_word,
    b_p_word := b_p_word,
    m_p_word := ⟨a_fn_p_word, i_p_word, kp_p_word⟩,
    f_p_gets := f_p_gets,
    fd_p_gets := fd_p_gets,
    F_p_gets := F_p_gets,
    b_p_gets := b_p_gets,
    m_p_gets := ⟨a_fn_p_gets, i_p_gets, kp_p_gets⟩,
    f_law_draws := f_law_draws,
    fd_law_draws := fd_law_draws,
    F_law_draws := F_law_draws,
    b_law_draws := b_law_draws,
    g_law_draws := PySem.W.mg_of X G a_fn_law_draws,
    f_law_take := f_law_take,
    fd_law_take := fd_law_take,
    F_law_take := F_law_take,
    b_law_take := b_law_take,
    g_law_take := PySem.W.mg_of X G a_fn_law_take,
    f_law_word := f_law_word,
    fd_law_word := fd_law_word,
    F_law_word := F_law_word,
    b_law_word := b_law_word,
    g_law_word := PySem.W.mg_of X G a_fn_law_word,
    f_law_is_int := f_law_is_int,
    fd_law_is_int := fd_law_is_int,
    F_law_is_int := F_law_is_int,
    b_law_is_int := b_law_is_int,
    g_law_is_int := PySem.W.mg_of X G a_fn_law_is_int,
    f_law_op := f_law_op,
    fd_law_op := fd_law_op,
    F_law_op := F_law_op,
    b_law_op := b_law_op,
    g_law_op := PySem.W.mg_of X G a_fn_law_op,
    f_law_ops := f_law_ops,
    fd_law_ops := fd_law_ops,
    F_law_ops := F_law_ops,
    b_law_ops := b_law_ops,
    g_law_ops := PySem.W.mg_of X G a_fn_law_ops,
    f_law_term_rows := f_law_term_rows,
    fd_law_term_rows := fd_law_term_rows,
    F_law_term_rows := F_law_term_rows,
    b_law_term_rows := b_law_term_rows,
    g_law_term_rows := PySem.W.mg_of X G a_fn_law_term_rows,
    f_law_row_words := f_law_row_words,
    fd_law_row_words := fd_law_row_words,
    F_law_row_words := F_law_row_words,
    b_law_row_words := b_law_row_words,
    g_law_row_words := PySem.W.mg_of X G a_fn_law_row_words,
    f_law_all_rows := f_law_all_rows,
    fd_law_all_rows := fd_law_all_rows,
    F_law_all_rows := F_law_all_rows,
    b_law_all_rows := b_law_all_rows,
    g_law_all_rows := PySem.W.mg_of X G a_fn_law_all_rows,
    f_law_keep := f_law_keep,
    fd_law_keep := fd_law_keep,
    F_law_keep := F_law_keep,
    b_law_keep := b_law_keep,
    g_law_keep := PySem.W.mg_of X G a_fn_law_keep,
    f_law_short := f_law_short,
    fd_law_short := fd_law_short,
    F_law_short := F_law_short,
    b_law_short := b_law_short,
    g_law_short := PySem.W.mg_of X G a_fn_law_short,
    f_law_apply := f_law_apply,
    fd_law_apply := fd_law_apply,
    F_law_apply := F_law_apply,
    b_law_apply := b_law_apply,
    g_law_apply := PySem.W.mg_of X G a_fn_law_apply,
    f_law_part := f_law_part,
    fd_law_part := fd_law_part,
    F_law_part := F_law_part,
    b_law_part := b_law_part,
    g_law_part := PySem.W.mg_of X G a_fn_law_part,
    f_law_asked := f_law_asked,
    fd_law_asked := fd_law_asked,
    F_law_asked := F_law_asked,
    b_law_asked := b_law_asked,
    g_law_asked := PySem.W.mg_of X G a_fn_law_asked,
    f_law_reach := f_law_reach,
    fd_law_reach := fd_law_reach,
    F_law_reach := F_law_reach,
    b_law_reach := b_law_reach,
    g_law_reach := PySem.W.mg_of X G a_fn_law_reach,
    f_law_moved := f_law_moved,
    fd_law_moved := fd_law_moved,
    F_law_moved := F_law_moved,
    b_law_moved := b_law_moved,
    g_law_moved := PySem.W.mg_of X G a_fn_law_moved,
    f_law_pair_rows := f_law_pair_rows,
    fd_law_pair_rows := fd_law_pair_rows,
    F_law_pair_rows := F_law_pair_rows,
    b_law_pair_rows := b_law_pair_rows,
    g_law_pair_rows := PySem.W.mg_of X G a_fn_law_pair_rows,
    f_law_all_made := f_law_all_made,
    fd_law_all_made := fd_law_all_made,
    F_law_all_made := F_law_all_made,
    b_law_all_made := b_law_all_made,
    g_law_all_made := PySem.W.mg_of X G a_fn_law_all_made,
    f_law_low := f_law_low,
    fd_law_low := fd_law_low,
    F_law_low := F_law_low,
    b_law_low := b_law_low,
    g_law_low := PySem.W.mg_of X G a_fn_law_low,
    f_law_carried_well := f_law_carried_well,
    fd_law_carried_well := fd_law_carried_well,
    F_law_carried_well := F_law_carried_well,
    b_law_carried_well := b_law_carried_well,
    g_law_carried_well := PySem.W.mg_of X G a_fn_law_carried_well,
    f_law_low_words := f_law_low_words,
    fd_law_low_words := fd_law_low_words,
    F_law_low_words := F_law_low_words,
    b_law_low_words := b_law_low_words,
    g_law_low_words := PySem.W.mg_of X G a_fn_law_low_words,
    f_law_twice := f_law_twice,
    fd_law_twice := fd_law_twice,
    F_law_twice := F_law_twice,
    b_law_twice := b_law_twice,
    g_law_twice := PySem.W.mg_of X G a_fn_law_twice,
    f_law_pair_same := f_law_pair_same,
    fd_law_pair_same := fd_law_pair_same,
    F_law_pair_same := F_law_pair_same,
    b_law_pair_same := b_law_pair_same,
    g_law_pair_same := PySem.W.mg_of X G a_fn_law_pair_same,
    f_law_doubled := f_law_doubled,
    fd_law_doubled := fd_law_doubled,
    F_law_doubled := F_law_doubled,
    b_law_doubled := b_law_doubled,
    g_law_doubled := PySem.W.mg_of X G a_fn_law_doubled,
    f_law_refused := f_law_refused,
    fd_law_refused := fd_law_refused,
    F_law_refused := F_law_refused,
    b_law_refused := b_law_refused,
    g_law_refused := PySem.W.mg_of X G a_fn_law_refused,
    f_law := f_law,
    fd_law := _,
    F_law := F_law,
    b_law := F_law.binds (ps := ["_law_script"]) fun _ _ _ _ _ _ us hl => match us, hl with | [_], _ => rfl,
    g_law := PySem.W.mg_of X G a_fn_law,
    C := C,
    cl := ⟨pg, hd_, po, sa⟩,
    g_Pool := PySem.W.mg_of X G aC,
    M_Pool := ⟨mkI, a_fn_p_init, i_p_init, kc⟩,
    nA_width := nA_width,
    nA__most := nA__most,
    nA__parts := nA__parts,
    nA__numbers := nA__numbers,
    t_MOST_PARTS := t_MOST_PARTS,
    c_MOST_PARTS := PySem.W.mg_of X G ct_MOST_PARTS,
    t_LAST_UNKNOWN := t_LAST_UNKNOWN,
    c_LAST_UNKNOWN := PySem.W.mg_of X G ct_LAST_UNKNOWN,
    a_OPS := a_OPS,
    c_OPS := PySem.W.mg_of X G ca_OPS,
    v_OPS := cv_OPS,
    a_EITHER_WAY := a_EITHER_WAY,
    c_EITHER_WAY := PySem.W.mg_of X G ca_EITHER_WAY,
    v_EITHER_WAY := cv_EITHER_WAY,
    n_len := PySem.W.mg_none_of X G z_len,
    n_list := PySem.W.mg_none_of X G z_list,
    n_tuple := PySem.W.mg_none_of X G z_tuple,
    n_int := PySem.W.mg_none_of X G z_int,
    n_min := PySem.W.mg_none_of X G z_min,
    n_range := PySem.W.mg_none_of X G z_range,
    n_isinstance := PySem.W.mg_none_of X G z_isinstance,
    n_sorted := PySem.W.mg_none_of X G z_sorted,
    n_bool := PySem.W.mg_none_of X G z_bool,
    n_iter := PySem.W.mg_none_of X G z_iter,
    C_BadPart := C_BadPart,
    g_BadPart := PySem.W.mg_of X G xa_BadPart,
    k_BadPart := xk_BadPart,
    x_BadPart := xx_BadPart,
    sb_BadPart := xb_BadPart,
    ty_BadPart := xt_BadPart,
    te_BadPart := exm_own xb_BadPart xi_BadPart xt_BadPart xs_BadPart }, rfl, rfl⟩
def spL (K : PySem.W.Frag) : Sp := fun vs H Q _ => ∃ (a : Addr) (xs : List Int), vs = [.ref a] ∧ SqL K H a (xs.map V.int) ∧ xs.length ≤ 63 ∧ ∀ H', Q (.bl true) H'
theorem walk {l : PySem.W.OpenLaw} {q : Program} {loose : List Str} {XP : (Str → Option Value) → Heap → Prop} {YP : World → Heap → Prop} {d : DefRec} {K : Params → PySem.W.Frag} (hn : l.most = some 63) (hdf : d.params.defaults = [])
    (hY : ∀ (w : World) (h : Heap), YP w h → (K w.params).In h)
    (F : ∀ (w : World) (mg : Str → Option Value) (fa : Addr) (h : Heap), (K w.params).In h → h.Ns mainGlobals mg → mg d.name = some (.ref fa) →
      ∃ fd : FuncData, (∀ (s : Shared) (u : Value), BindsTo s fd ⟨[u], []⟩ [("_law_script", u)]) ∧ ∀ base : Heap, (K w.params).In base → base.Ns mainGlobals mg → FnOk l.prog w (K w.params) mg base CX0 9 fa fd ["_law_script"] (spL (K w.params))) :
    PySem.W.WalkO q loose XP YP l.row.toRowW d [] (fun f vs => PySem.call f vs) :=
  L2.walk_of (n := 63) (k := 9) (x := "_law_script") (CX := fun _ => CX0) (sp := fun w => spL (K w.params)) hn (by decide) hdf ⟨rfl, by decide, by decide⟩ hY F (fun _ _ a ns hl _ hS => ⟨a, ns, rfl, hS, hl, fun _ => rfl⟩) fun _ _ _ _ _ z => z
/-- the law by what the top has left -/
theorem law_of {P : Program} {w : World} {K : PySem.W.Frag} {mg : Str → Option Value} {fa fl : Addr} {an : Option Addr} {kV dc pm cd ct : Value} (hfa : mg "law" = some (.ref fa))
    (h : ∃ T : Txt K mg, T.f_law = fl ∧ T.fd_law = PySem.W.fnOf "law" "law" (defArgs s_law) (defBody s_law) (defScope s_law) .none kV dc pm an cd ct) :
    ∃ fd : FuncData, (∀ (s : Shared) (u : Value), BindsTo s fd ⟨[u], []⟩ [("_law_script", u)]) ∧ ∀ base : Heap, K.In base → base.Ns mainGlobals mg → FnOk P w K mg base CX0 9 fa fd ["_law_script"] (spL K) := by
  obtain ⟨T, e1, e2⟩ := h
  have e := hfa.symm.trans T.g_law
  cases e
  refine ⟨T.fd_law, fun s v => by rw [e2]; exact .of_eq rfl, fun base _ _ => ?_⟩
  exact ok_law (P := P) (w := w) (base := base) T
end My

open PySem PySem.W PyProof.Rows in
set_option maxRecDepth 100000 in
set_option maxHeartbeats 0 in
theorem PySem.Challenge.cw_selfwritten_k02_low_bits_at_every_width_holds : PySem.Challenge.rw_selfwritten_k02_low_bits_at_every_width.Holds := by
  w_on; o_law; k_head; (case hw => w_witness2)
  k_fill
  refine My.walk (l := PySem.Challenge.rw_selfwritten_k02_low_bits_at_every_width) rfl rfl (fun w h Y => PySem.W.kIn_of Y) ?F
  case F =>
    intro w mg fa h KX G hmg
    refine' My.law_of hmg (My.all_mk KX G ?a_fn_op_word ?m_op_word ?a_fn_shortened ?m_shortened ?a_fn_shortened_and ?m_shortened_and ?a_fn_shortened_twice ?m_shortened_twice ?a_fn_is_int ?m_is_int ?a_fn_is_row ?m_is_row ?a_fn_check_int ?m_check_int ?a_fn_ones ?m_ones ?a_fn_carried ?m_carried ?a_fn_p_init ?i_p_init ?kp_p_init ?m_p_init ?a_fn_p_len ?i_p_len ?kp_p_len ?m_p_len ?a_fn_p_iter ?i_p_iter ?kp_p_iter ?m_p_iter ?a_fn_p_check_part ?i_p_check_part ?kp_p_check_part ?m_p_check_part ?a_fn_p_check_parts ?i_p_check_parts ?kp_p_check_parts ?m_p_check_parts ?a_fn_p_num ?i_p_num ?kp_p_num ?m_p_num ?a_fn_p_unknown ?i_p_unknown ?kp_p_unknown ?m_p_unknown ?a_fn_p_apply ?i_p_apply ?kp_p_apply ?m_p_apply ?a_fn_p_part ?i_p_part ?kp_p_part ?m_p_part ?a_fn_p_value ?i_p_value ?kp_p_value ?m_p_value ?a_fn_p_reached ?i_p_reached ?kp_p_reached ?m_p_reached ?a_fn_p_reached_by ?i_p_reached_by ?kp_p_reached_by ?m_p_reached_by ?a_fn_p_made ?i_p_made ?kp_p_made ?m_p_made ?a_fn_p_word ?i_p_word ?kp_p_word ?m_p_word ?a_fn_p_gets ?i_p_gets ?kp_p_gets ?m_p_gets ?a_fn_law_draws ?m_law_draws ?a_fn_law_take ?m_law_take ?a_fn_law_word ?m_law_word ?a_fn_law_is_int ?m_law_is_int ?a_fn_law_op ?m_law_op ?a_fn_law_ops ?m_law_ops ?a_fn_law_term_rows ?m_law_term_rows ?a_fn_law_row_words ?m_law_row_words ?a_fn_law_all_rows ?m_law_all_rows ?a_fn_law_keep ?m_law_keep ?a_fn_law_short ?m_law_short ?a_fn_law_apply ?m_law_apply ?a_fn_law_part ?m_law_part ?a_fn_law_asked ?m_law_asked ?a_fn_law_reach ?m_law_reach ?a_fn_law_moved ?m_law_moved ?a_fn_law_pair_rows ?m_law_pair_rows ?a_fn_law_all_made ?m_law_all_made ?a_fn_law_low ?m_law_low ?a_fn_law_carried_well ?m_law_carried_well ?a_fn_law_low_words ?m_law_low_words ?a_fn_law_twice ?m_law_twice ?a_fn_law_pair_same ?m_law_pair_same ?a_fn_law_doubled ?m_law_doubled ?a_fn_law_refused ?m_law_refused ?a_fn_law ?l_law ?c_law ?kp_law ?aC ?pg ?hd_ ?po ?sa ?mkI ?kc ?nA_width ?nA__most ?nA__parts ?nA__numbers ?ct_MOST_PARTS ?ct_LAST_UNKNOWN ?ca_OPS ?cv_OPS ?ca_EITHER_WAY ?cv_EITHER_WAY ?z_len ?z_list ?z_tuple ?z_int ?z_min ?z_range ?z_isinstance ?z_sorted ?z_bool ?z_iter ?xa_BadPart ?xk_BadPart ?xx_BadPart ?xb_BadPart ?xt_BadPart ?xi_BadPart ?xs_BadPart)
    (case aC => k_is)
    (case a_fn_op_word => k_is)
    (case m_op_word => (refine' My.mk_op_word ?l ?c ?k; (case l => k_is); (case c => k_is); (case k => k_is)))
    (case a_fn_shortened => k_is)
    (case m_shortened => (refine' My.mk_shortened ?l ?c ?k; (case l => k_is); (case c => k_is); (case k => k_is)))
    (case a_fn_shortened_and => k_is)
    (case m_shortened_and => (refine' My.mk_shortened_and ?l ?c ?k; (case l => k_is); (case c => k_is); (case k => k_is)))
    (case a_fn_shortened_twice => k_is)
    (case m_shortened_twice => (refine' My.mk_shortened_twice ?l ?c ?k; (case l => k_is); (case c => k_is); (case k => k_is)))
    (case a_fn_is_int => k_is)
    (case m_is_int => (refine' My.mk_is_int ?l ?c ?k; (case l => k_is); (case c => k_is); (case k => k_is)))
    (case a_fn_is_row => k_is)
    (case m_is_row => (refine' My.mk_is_row ?l ?c ?k; (case l => k_is); (case c => k_is); (case k => k_is)))
    (case a_fn_check_int => k_is)
    (case m_check_int => (refine' My.mk_check_int ?l ?c ?k; (case l => k_is); (case c => k_is); (case k => k_is)))
    (case a_fn_ones => k_is)
    (case m_ones => (refine' My.mk_ones ?l ?c ?k; (case l => k_is); (case c => k_is); (case k => k_is)))
    (case a_fn_carried => k_is)
    (case m_carried => (refine' My.mk_carried ?l ?c ?k; (case l => k_is); (case c => k_is); (case k => k_is)))
    (case a_fn_p_init => k_is)
    (case i_p_init => k_is)
    (case kp_p_init => k_is)
    (case m_p_init => (refine' My.mk_p_init ?l ?c ?k; (case l => k_is); (case c => k_is); (case k => k_is)))
    (case a_fn_p_len => k_is)
    (case i_p_len => k_is)
    (case kp_p_len => k_is)
    (case m_p_len => (refine' My.mk_p_len ?l ?c ?k; (case l => k_is); (case c => k_is); (case k => k_is)))
    (case a_fn_p_iter => k_is)
    (case i_p_iter => k_is)
    (case kp_p_iter => k_is)
    (case m_p_iter => (refine' My.mk_p_iter ?l ?c ?k; (case l => k_is); (case c => k_is); (case k => k_is)))
    (case a_fn_p_check_part => k_is)
    (case i_p_check_part => k_is)
    (case kp_p_check_part => k_is)
    (case m_p_check_part => (refine' My.mk_p_check_part ?l ?c ?k; (case l => k_is); (case c => k_is); (case k => k_is)))
    (case a_fn_p_check_parts => k_is)
    (case i_p_check_parts => k_is)
    (case kp_p_check_parts => k_is)
    (case m_p_check_parts => (refine' My.mk_p_check_parts ?l ?c ?k; (case l => k_is); (case c => k_is); (case k => k_is)))
    (case a_fn_p_num => k_is)
    (case i_p_num => k_is)
    (case kp_p_num => k_is)
    (case m_p_num => (refine' My.mk_p_num ?l ?c ?k; (case l => k_is); (case c => k_is); (case k => k_is)))
    (case a_fn_p_unknown => k_is)
    (case i_p_unknown => k_is)
    (case kp_p_unknown => k_is)
    (case m_p_unknown => (refine' My.mk_p_unknown ?l ?c ?k; (case l => k_is); (case c => k_is); (case k => k_is)))
    (case a_fn_p_apply => k_is)
    (case i_p_apply => k_is)
    (case kp_p_apply => k_is)
    (case m_p_apply => (refine' My.mk_p_apply ?l ?c ?k; (case l => k_is); (case c => k_is); (case k => k_is)))
    (case a_fn_p_part => k_is)
    (case i_p_part => k_is)
    (case kp_p_part => k_is)
    (case m_p_part => (refine' My.mk_p_part ?l ?c ?k; (case l => k_is); (case c => k_is); (case k => k_is)))
    (case a_fn_p_value => k_is)
    (case i_p_value => k_is)
    (case kp_p_value => k_is)
    (case m_p_value => (refine' My.mk_p_value ?l ?c ?k; (case l => k_is); (case c => k_is); (case k => k_is)))
    (case a_fn_p_reached => k_is)
    (case i_p_reached => k_is)
    (case kp_p_reached => k_is)
    (case m_p_reached => (refine' My.mk_p_reached ?l ?c ?k; (case l => k_is); (case c => k_is); (case k => k_is)))
    (case a_fn_p_reached_by => k_is)
    (case i_p_reached_by => k_is)
    (case kp_p_reached_by => k_is)
    (case m_p_reached_by => (refine' My.mk_p_reached_by ?l ?c ?k; (case l => k_is); (case c => k_is); (case k => k_is)))
    (case a_fn_p_made => k_is)
    (case i_p_made => k_is)
    (case kp_p_made => k_is)
    (case m_p_made => (refine' My.mk_p_made ?l ?c ?k; (case l => k_is); (case c => k_is); (case k => k_is)))
    (case a_fn_p_word => k_is)
    (case i_p_word => k_is)
    (case kp_p_word => k_is)
    (case m_p_word => (refine' My.mk_p_word ?l ?c ?k; (case l => k_is); (case c => k_is); (case k => k_is)))
    (case a_fn_p_gets => k_is)
    (case i_p_gets => k_is)
    (case kp_p_gets => k_is)
    (case m_p_gets => (refine' My.mk_p_gets ?l ?c ?k; (case l => k_is); (case c => k_is); (case k => k_is)))
    (case a_fn_law_draws => k_is)
    (case m_law_draws => (refine' My.mk_law_draws ?l ?c ?k; (case l => k_is); (case c => k_is); (case k => k_is)))
    (case a_fn_law_take => k_is)
    (case m_law_take => (refine' My.mk_law_take ?l ?c ?k; (case l => k_is); (case c => k_is); (case k => k_is)))
    (case a_fn_law_word => k_is)
    (case m_law_word => (refine' My.mk_law_word ?l ?c ?k; (case l => k_is); (case c => k_is); (case k => k_is)))
    (case a_fn_law_is_int => k_is)
    (case m_law_is_int => (refine' My.mk_law_is_int ?l ?c ?k; (case l => k_is); (case c => k_is); (case k => k_is)))
    (case a_fn_law_op => k_is)
    (case m_law_op => (refine' My.mk_law_op ?l ?c ?k; (case l => k_is); (case c => k_is); (case k => k_is)))
    (case a_fn_law_ops => k_is)
    (case m_law_ops => (refine' My.mk_law_ops ?l ?c ?k; (case l => k_is); (case c => k_is); (case k => k_is)))
    (case a_fn_law_term_rows => k_is)
    (case m_law_term_rows => (refine' My.mk_law_term_rows ?l ?c ?k; (case l => k_is); (case c => k_is); (case k => k_is)))
    (case a_fn_law_row_words => k_is)
    (case m_law_row_words => (refine' My.mk_law_row_words ?l ?c ?k; (case l => k_is); (case c => k_is); (case k => k_is)))
    (case a_fn_law_all_rows => k_is)
    (case m_law_all_rows => (refine' My.mk_law_all_rows ?l ?c ?k; (case l => k_is); (case c => k_is); (case k => k_is)))
    (case a_fn_law_keep => k_is)
    (case m_law_keep => (refine' My.mk_law_keep ?l ?c ?k; (case l => k_is); (case c => k_is); (case k => k_is)))
    (case a_fn_law_short => k_is)
    (case m_law_short => (refine' My.mk_law_short ?l ?c ?k; (case l => k_is); (case c => k_is); (case k => k_is)))
    (case a_fn_law_apply => k_is)
    (case m_law_apply => (refine' My.mk_law_apply ?l ?c ?k; (case l => k_is); (case c => k_is); (case k => k_is)))
    (case a_fn_law_part => k_is)
    (case m_law_part => (refine' My.mk_law_part ?l ?c ?k; (case l => k_is); (case c => k_is); (case k => k_is)))
    (case a_fn_law_asked => k_is)
    (case m_law_asked => (refine' My.mk_law_asked ?l ?c ?k; (case l => k_is); (case c => k_is); (case k => k_is)))
    (case a_fn_law_reach => k_is)
    (case m_law_reach => (refine' My.mk_law_reach ?l ?c ?k; (case l => k_is); (case c => k_is); (case k => k_is)))
    (case a_fn_law_moved => k_is)
    (case m_law_moved => (refine' My.mk_law_moved ?l ?c ?k; (case l => k_is); (case c => k_is); (case k => k_is)))
    (case a_fn_law_pair_rows => k_is)
    (case m_law_pair_rows => (refine' My.mk_law_pair_rows ?l ?c ?k; (case l => k_is); (case c => k_is); (case k => k_is)))
    (case a_fn_law_all_made => k_is)
    (case m_law_all_made => (refine' My.mk_law_all_made ?l ?c ?k; (case l => k_is); (case c => k_is); (case k => k_is)))
    (case a_fn_law_low => k_is)
    (case m_law_low => (refine' My.mk_law_low ?l ?c ?k; (case l => k_is); (case c => k_is); (case k => k_is)))
    (case a_fn_law_carried_well => k_is)
    (case m_law_carried_well => (refine' My.mk_law_carried_well ?l ?c ?k; (case l => k_is); (case c => k_is); (case k => k_is)))
    (case a_fn_law_low_words => k_is)
    (case m_law_low_words => (refine' My.mk_law_low_words ?l ?c ?k; (case l => k_is); (case c => k_is); (case k => k_is)))
    (case a_fn_law_twice => k_is)
    (case m_law_twice => (refine' My.mk_law_twice ?l ?c ?k; (case l => k_is); (case c => k_is); (case k => k_is)))
    (case a_fn_law_pair_same => k_is)
    (case m_law_pair_same => (refine' My.mk_law_pair_same ?l ?c ?k; (case l => k_is); (case c => k_is); (case k => k_is)))
    (case a_fn_law_doubled => k_is)
    (case m_law_doubled => (refine' My.mk_law_doubled ?l ?c ?k; (case l => k_is); (case c => k_is); (case k => k_is)))
    (case a_fn_law_refused => k_is)
    (case m_law_refused => (refine' My.mk_law_refused ?l ?c ?k; (case l => k_is); (case c => k_is); (case k => k_is)))
    (case a_fn_law => k_is)
    (case l_law => k_is)
    (case c_law => k_is)
    (case kp_law => k_is)
    (case pg => k_is)
    (case hd_ => k_is)
    (case po => k_is)
    (case sa => k_is)
    (case mkI => k_is)
    (case kc => k_is)
    (case nA_width => k_is)
    (case nA__most => k_is)
    (case nA__parts => k_is)
    (case nA__numbers => k_is)
    (case ct_MOST_PARTS => k_is)
    (case ct_LAST_UNKNOWN => k_is)
    (case ca_OPS => k_is)
    (case cv_OPS => (refine' My.tup_kit ?lk ?z ?v; (case lk => k_is); (case z => (show _ ≤ _; decide +kernel)); (case v => exact (.cons ⟨_, rfl⟩ (.cons ⟨_, rfl⟩ (.cons ⟨_, rfl⟩ (.cons ⟨_, rfl⟩ (.cons ⟨_, rfl⟩ (.cons ⟨_, rfl⟩ (.cons ⟨_, rfl⟩ .nil))))))))))
    (case ca_EITHER_WAY => k_is)
    (case cv_EITHER_WAY => (refine' My.tup_kit ?lk ?z ?v; (case lk => k_is); (case z => (show _ ≤ _; decide +kernel)); (case v => exact (.cons ⟨_, rfl⟩ (.cons ⟨_, rfl⟩ (.cons ⟨_, rfl⟩ (.cons ⟨_, rfl⟩ (.cons ⟨_, rfl⟩ .nil))))))))
    (case z_len => k_is)
    (case z_list => k_is)
    (case z_tuple => k_is)
    (case z_int => k_is)
    (case z_min => k_is)
    (case z_range => k_is)
    (case z_isinstance => k_is)
    (case z_sorted => k_is)
    (case z_bool => k_is)
    (case z_iter => k_is)
    (case xa_BadPart => k_is)
    (case xk_BadPart => k_is)
    (case xx_BadPart => k_exc)
    (case xb_BadPart => k_is)
    (case xt_BadPart => k_is)
    (case xi_BadPart => k_is)
    (case xs_BadPart => k_is)
